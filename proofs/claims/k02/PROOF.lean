import PyProof.Rows.All
import Wide.All
import OpenK.AllK
import Wide.FinOn
import KE.KExcIs
import HandS.ForMost
import HandS.Exc
import HandS.ExcOwn
import HandS.ExcValue
import HandS.Style
import PyProof.InstNe
import KE.KCallOwn
import HandS.OwnEq
import HandS.TupSets
import PyProof.StrWalks
import PyProof.WalksS
import KE.SortData
import HandS.Set
import HandS.SetFor
import HandS.SetTxt0
import HandS.SetKeys
import HandS.DictComp
import HandS.Strs
import PyProof.StrLawsChain
import PyProof.StrLawsIn
import PyProof.FitsReplace
import KE.KIntText
import HandS.ClsMeth
import HandS.WordsExc
import HandS.IsInst
import HandS.Codes
import HandS.FStr
import HandS.TupLe
import PyProof.CallFns
import HandS.RaiseMore
import HandS.ExcIs
import HandS.ExcField
import HandS.TryMany
import PyProof.EnumMake
import PyProof.Draws
import KE.GoesMore
import HandS.Iter
import PyProof.NeKinds
import PyProof.EqAt
import HandS.TupAny
import HandS.MakeKwOnly
import PyProof.ListRange
import PyProof.RangeFor
import PyProof.InstSpecial
import HandS.Defaults
import PySem.Challenge.RW_loopsdeep_k02_machines_of_any_value
set_option Elab.async false
set_option linter.all false
set_option maxRecDepth 100000
set_option maxHeartbeats 4000000
namespace PySem
namespace Vx
open PySem.W PySem.Calls PyProof.Rows PySem.HandSPX
/-! ### an own exception class is called, with keywords -/
section
variable {M : Model} {A : Around} {E : Value → Shared → Prop} {h : Heap} {g : Array GenState} {d : Drawn} {t : Nat} {os : OsState}
variable {nm q : Str} {C N : Addr} {bs bm bmB : List Value} {hdct : Bool} {sn : List Str} {sub : List Value} {ab : Bool} {col : Option Bool} {dd : Option Addr} {k0 k1 k2 k3 k5 : Option Value} {B newId initId : String}
theorem chkNew (F : ExcBaseFacts B newId initId bmB) (tl : ∀ T : String, bm.contains (.type T) = bmB.contains (.type T)) {rest : List Value} {kw : List (Str × Value)} {Q : Unit → Shared → Prop}
    (hC : h.get? C = some (excClassObj nm q C N bs bm hdct sn sub ab col dd k0 k1 k2 k3 k5 newId)) (go : Q () ⟨h, g, d, t, os⟩) : wpAny M A (checkBuiltinCall newId ⟨.ref C :: rest, kw⟩) Q E ⟨h, g, d, t, os⟩ := by
  have isB : (Value.ref C :: bm).contains (.type B) = true := by rw [List.contains_cons, tl, F.hasB, Bool.or_true]
  have st := F.noStar
  simp only [checkBuiltinCall, F.newKind, F.newSplit, F.newRow]
  repeat (first | refine wpAny_loadPart_at hC ?_ | (refine wpAny_isSubtype_exc hC ?_; rw [isB]) | refine wpAny_staticBase_exc hC ?_ | refine wpAny_madeBy_exc hC ?_ | simp only [bne_self_eq_false, Bool.false_eq_true, if_false] | wp_step)

  exact go
theorem chkCall {rest : List Value} {kw : List (Str × Value)} {Q : Unit → Shared → Prop} (hC : h.get? C = some (excClassObj nm q C N bs bm hdct sn sub ab col dd k0 k1 k2 k3 k5 newId)) (go : Q () ⟨h, g, d, t, os⟩) :
    wpAny M A (checkBuiltinCall "type.__call__" ⟨.ref C :: rest, kw⟩) Q E ⟨h, g, d, t, os⟩ := by
  have u3 := tc_sub
  have hT : (⟨h, g, d, t, os⟩ : Shared).TypeIs (.ref C) "type" := ⟨_, hC, rfl⟩
  simp only [checkBuiltinCall, tc_kind, tc_split]
  repeat (any_goals (first | assumption | with_reducible refine wpAny_loadPart_at hC ?_ | with_reducible refine wpAny_onRaise ?_ | with_reducible refine wpAny_map ?_ | wp_step))
end
section
variable {prog : Program} {w : World} {A : Around} {E : Value → Shared → Prop} {R : Result → Shared → Prop} {h : Heap} {g : Array GenState} {d : Drawn} {t : Nat} {os : OsState}
variable {nm q : Str} {C N : Addr} {bs bm bmB : List Value} {hdct : Bool} {sn : List Str} {sub : List Value} {ab : Bool} {col : Option Bool} {dd : Option Addr} {k0 k1 k2 k3 k5 : Option Value} {B newId initId : String}
theorem newE (F : ExcBaseFacts B newId initId bmB) (tl : ∀ T : String, bm.contains (.type T) = bmB.contains (.type T)) {rest : List Value} {kw : List (Str × Value)}
    (hC : h.get? C = some (excClassObj nm q C N bs bm hdct sn sub ab col dd k0 k1 k2 k3 k5 newId)) (few : rest.length ≤ sizeLine)
    (go : R (.ok (.ret (.ref (h.objs.size + 1)))) ⟨(h.push (W.kdv_tup rest)).push (excO C h.objs.size), g, d, t, os⟩) :
    codeAny (model prog w) A (.builtin newId ⟨.ref C :: rest, kw⟩) R ⟨h, g, d, t, os⟩ := by
  have en := F.ends
  have isB : (Value.ref C :: bm).contains (.type B) = true := by rw [List.contains_cons, tl, F.hasB, Bool.or_true]
  have noA : (Value.ref C :: bm).contains (.type "AttributeError") = false := by rw [List.contains_cons, tl, F.noAttr]; rfl
  have noN : (Value.ref C :: bm).contains (.type "NameError") = false := by rw [List.contains_cons, tl, F.noName]; rfl
  refine codeAny_builtinAt F.entry ?_
  unfold Builtin.«BaseException.__new__»
  refine wpAt_bind ?_
  show wpAt _ _ _ (stack >>= _) _ _ _
  refine wpAt_bind (wpAt_stack fun p below => wpAt_of_wpAny ?_)
  wp_walk
  refine wpAt_of_wpAny ?_
  rw [F.owner]
  repeat (first | with_reducible refine wpAny_madeHere_exc F.canon hC ?_ | with_reducible refine wpAny_loadPart_at hC ?_ | (with_reducible refine wpAny_isSubtype_exc hC ?_; first | rw [isB] | rw [noA] | rw [noN]) | wp_step)
  show R _ _
  rw [Heap.size_push]
  exact go
theorem typeCallE (F : ExcBaseFacts B newId initId bmB) (tl : ∀ T : String, bm.contains (.type T) = bmB.contains (.type T)) {rest : List Value} {kw : List (Str × Value)} {fI : Addr} {Q : Fin → Shared → Prop}
    (hC : h.get? C = some (excClassObj nm q C N bs bm hdct sn sub ab col dd k0 k1 k2 k3 k5 newId))
    (hi : W.Looks (model prog w) h (typeLookup (.ref C) "__init__") (some (.ref fI))) (hb : ∀ self, W.Looks (model prog w) h (bindSpecial (.ref fI) self) (.ref fI, [self])) (few : rest.length ≤ sizeLine)
    (go : codeAny (model prog w) A (.call (.ref fI) ⟨.ref (h.objs.size + 1) :: rest, kw⟩)
      (fun r s' => match r with | .ok (.ret v) => v = .none ∧ Q (.done (.ret (.ref (h.objs.size + 1)))) s' | .ok _ => False | .error e => E e s') ⟨(h.push (W.kdv_tup rest)).push (excO C h.objs.size), g, d, t, os⟩) :
    wpAny (model prog w) A (Builtin.«type.__call__» ⟨.ref C :: rest, kw⟩) Q E ⟨h, g, d, t, os⟩ := by
  repeat (first | with_reducible refine wpAny_loadPart_at hC ?_ | with_reducible refine wpAny_madeBy_exc hC ?_ | wp_step)
  refine codeAny_call_builtin_code (Code.quiet_builtin _ F.quiet) (chkNew F tl hC ?_)
  refine newE F tl hC few ?_
  show wpAny _ _ _ _ _ _
  have kp : ∀ b o, h.get? b = some o → ((h.push (W.kdv_tup rest)).push (excO C h.objs.size)).get? b = some o := fun b o e => Heap.get?_push_of_some _ (Heap.get?_push_of_some _ e)
  have hC2 := kp _ _ hC
  have at2 : ((h.push (W.kdv_tup rest)).push (excO C h.objs.size)).get? (h.objs.size + 1) = some (excO C h.objs.size) := by heap_get
  have self : (Value.ref C :: bm).contains (.ref C) = true := by simp
  have ii := hi.keeps kp
  have bb := (hb (.ref (h.objs.size + 1))).keeps kp
  unfold isInstance
  repeat (first | with_reducible refine wpAny_loadPart_at at2 ?_ | (with_reducible refine wpAny_isSubtype_exc hC2 ?_; rw [self]) | wp_step)
  show wpAny _ _ (typeLookup (.ref C) _) _ _ _
  refine ii.at ?_
  refine wpAny_holding (wpAny_bind (bb.at ?_))
  refine wpAny_bind (wpAny_call (codeAny_mono go fun r s' z => ?_))
  rcases r with e | (v | _ | _ | _) <;> first | exact z | exact z.elim | skip
  obtain ⟨rfl, z⟩ := z
  first
    | exact wpAny_pure (wpAny_pure z)
    | (wp_walk; exact z)
theorem callE (F : ExcBaseFacts B newId initId bmB) (tl : ∀ T : String, bm.contains (.type T) = bmB.contains (.type T)) {rest : List Value} {kw : List (Str × Value)} {fI : Addr}
    (hC : h.get? C = some (excClassObj nm q C N bs bm hdct sn sub ab col dd k0 k1 k2 k3 k5 newId))
    (hi : W.Looks (model prog w) h (typeLookup (.ref C) "__init__") (some (.ref fI))) (hb : ∀ self, W.Looks (model prog w) h (bindSpecial (.ref fI) self) (.ref fI, [self])) (few : rest.length ≤ sizeLine)
    (go : codeAny (model prog w) (A.under (.builtin "type.__call__" ⟨.ref C :: rest, kw⟩)) (.call (.ref fI) ⟨.ref (h.objs.size + 1) :: rest, kw⟩) (W.InitBack (h.objs.size + 1) R) ⟨(h.push (W.kdv_tup rest)).push (excO C h.objs.size), g, d, t, os⟩) :
    codeAny (model prog w) A (.call (.ref C) ⟨rest, kw⟩) R ⟨h, g, d, t, os⟩ := by
  have u1 := tc_lookup
  have u2 := tc_bind (.ref C)
  have hTy : (⟨h, g, d, t, os⟩ : Shared).TypeIs (.ref C) "type" := ⟨_, hC, rfl⟩
  refine codeAny_of_tree ?_
  show wpAny _ _ (callAny (.ref C) _) _ _ _
  repeat (any_goals (first | assumption | with_reducible refine wpAny_loadPart_at hC ?_ | wp_step))
  refine ⟨rfl, ?_⟩
  refine codeAny_call_builtin_at (Code.quiet_builtin _ (by decide +kernel)) entry_typeCall (chkCall hC (typeCallE F tl hC hi hb few ?_))
  refine codeAny_mono go fun r s' z => ?_
  rcases r with e | (v | _ | _ | _) <;> exact z
end
end Vx
end PySem
set_option Elab.async false
set_option linter.all false
set_option maxRecDepth 100000
set_option maxHeartbeats 4000000
namespace Vk
open PySem PySem.Spec PyProof.Rows L2
/-! ## a def's promise where no repr is under way -/
structure FnG (P : Program) (w : World) (K : PySem.W.Frag) (mg : Str → Option Value) (base : Heap) (CX : CXT) (k : Nat) (f : Addr) (fd : FuncData) (ps : List Str) (sp : Sp) : Prop where
  len : ∀ vs H Q E, sp vs H Q E → vs.length = ps.length
  run : ∀ (A : Around) (outer : List Env) (s : Shared) (H : Hp) (args : Args) (us : List Value) (vs : List V) (Q : VK) (E : XK), A.guards = some [] → Room k A → Env0 P w K mg base A outer s H →
    BindsTo s fd args (ps.zip us) → Vals vs us → sp vs H Q E → codeAny (model P w) A (.call (.ref f) args) (CR CX outer P w H s Q E) s
section
variable {P : Program} {w : World} {K : PySem.W.Frag} {mg : Str → Option Value} {base : Heap} {CX : CXT}
theorem FnG.mono {j k : Nat} {f : Addr} {fd : FuncData} {ps : List Str} {sp : Sp} (F : FnG P w K mg base CX j f fd ps sp) (h : j ≤ k) : FnG P w K mg base CX k f fd ps sp :=
  ⟨F.len, fun A o s H as us vs Q E hg hr => F.run A o s H as us vs Q E hg (hr.mono h)⟩
theorem fn_ofG {k : Nat} {f : Addr} {nm qual : Str} {pms : Arguments} {body : List Stmt} {sc : Scope} {dV kV doc pm cdv ct oc : Value} {an od : Option Addr} {osl : Array (Option Value)} {N ps : List Str} {sp : Sp}
    (lk : K.lookup f = some ⟨oc, od, .func (PySem.W.fnOf nm qual pms body sc dV kV doc pm an cdv ct), osl⟩) (hcd : PySem.W.codeIn K cdv qual = true) (S : FnScope N ps sc) (len : ∀ vs H Q E, sp vs H Q E → vs.length = ps.length)
    (hb : ∀ (A : Around) (outer : List Env) (s : Shared) (H : Hp) (vs : List V) (Q : VK) (E : XK), A.guards = some [] → Room k (A.deeper (envOfC qual sc s.heap.objs.size f cdv)) → sp vs H Q E →
      ∃ t, PSs (cxOf CX P w K mg base N qual sc f cdv A outer s H E) body t ∧ t { nx := fun _ H' => Q .non H', rt := Q } (start N vs) H) :
    FnG P w K mg base CX (k + 1) f (PySem.W.fnOf nm qual pms body sc dV kV doc pm an cdv ct) ps sp := by
  refine ⟨len, fun A outer s H args us vs Q E hgd hr z0 hbt rv hp => ?_⟩
  have lenv := len _ _ _ _ hp
  have KX : K.In s.heap := z0.mod.kin.keeps fun b o q => (z0.bs b o q).1
  have noL : s.heap.NoLimit := z0.mod.nolimit.keeps fun b o q => (z0.bs b o q).1
  refine codeAny_call_function hr.depth (KX _ _ lk) rfl S.co S.gen rfl (PySem.W.codeRec_of KX hcd) (hbt _ _ _ _ ?_)
  refine wpAny_newFunctionEnv_cells S.kind (fun ⟨y, v⟩ hy => (S.par y (List.of_mem_zip hy).1).elim .inl fun q => .inr ⟨q, PySem.W.cellsFrom_some _ _ _ (.inl q)⟩) fun env he s1 x => ?_
  subst he
  refine ⟨noL.keeps x.toInCall.keep, codeAny_func ?_⟩
  obtain ⟨t, ht, hq⟩ := hb A outer s H vs Q E hgd (hr.deeper _) hp
  have I0 : Inv (cxOf CX P w K mg base N qual sc f cdv A outer s H E) [] (start N vs) H s1 := inv_start S hr.hd z0 lenv rv x
  refine wpAny_mono (ht.run [] s1 _ H _ I0 hq) (fun fl s2 q2 => ?_) fun _ _ q2 => q2
  cases fl with
  | ret u =>
    obtain ⟨v, _, H2, J, r2, q3⟩ := q2
    exact ⟨v, H2, J.os, J.bare, J.base, J.hok, r2, q3⟩
  | next =>
    obtain ⟨_, H2, J, q3⟩ := q2
    exact ⟨V.non, H2, J.os, J.bare, J.base, J.hok, rfl, q3⟩
  | brk =>
    obtain ⟨_, _, _, q3⟩ := q2
    exact q3.elim
  | cont =>
    obtain ⟨_, _, _, q3⟩ := q2
    exact q3.elim
theorem okG {x qual : Str} {st : Stmt} {f : Addr} {fd : FuncData} {N ps : List Str} {k : Nat} {sp : Sp} (F : Fun K x qual st f fd) (S : FnScope N ps (defScope st)) (len : ∀ vs H Q E, sp vs H Q E → vs.length = ps.length)
    (hb : ∀ (cdv : Value) (A : Around) (outer : List Env) (s : Shared) (H : Hp) (vs : List V) (Q : VK) (E : XK), A.guards = some [] → Room k (A.deeper (envOfC qual (defScope st) s.heap.objs.size f cdv)) → sp vs H Q E →
      ∃ t, PSs (cxOf CX0 P w K mg base N qual (defScope st) f cdv A outer s H E).nox (defBody st) t ∧ t { nx := fun _ H' => Q .non H', rt := Q } (start N vs) H) : FnG P w K mg base CX0 (k + 1) f fd ps sp := by
  obtain ⟨oc, od, kV, doc, pm, an, cdv, ct, osl, rfl, lk, hcd⟩ := F.ex
  exact fn_ofG lk hcd S len fun A outer s H vs Q E hg hr hp => let ⟨t, h, q⟩ := hb cdv A outer s H vs Q E hg hr hp; ⟨t, h.nox, q⟩
end
section
variable {X : Cx} {CX : CXT} {k : Nat} {f : Addr} {fd : FuncData} {ps : List Str} {sp : Sp} {E : XK} {x : Str} {p pos : Pos} {e : Expr} {es : List Expr} {t : TA}
theorem pe_callG (F : FnG X.prog X.w X.K X.mg X.base CX k f fd ps sp) (hgd : X.A.guards = some []) (hr : Room k X.A) (hg : Gl X x) (hm : X.mg x = some (.ref f)) (hk : PySem.W.keepIn X.K (.ref f) = true) (hb : Binds X.K fd ps []) (hx : Passes CX X E)
    (ha : PA X (e :: es) t) (hdb : (x == ("__debug__" : Str)) = false := by decide) (he : starEach (e :: es) X.env = (false, eval e X.env) :: starEach es X.env := by rfl) (hpl : (backTo pos (starEach es X.env)).any (·.1) = false := by rfl) :
    PE X (.Call (.Name x p) (e :: es) [] pos) (tCall sp [] E t) := by
  refine ⟨fun pins s σ H Q I h => wpAny_Call_Name_kw (ld_glob I hg hm ?_ hdb)⟩
  refine PySem.W.callWith_K (h₀ := X.base) I.ok.mod.kin hk (thn (ha.run pos pins s σ H _ I h) fun us s1 ⟨vs, H1, I1, r, q⟩ => ⟨I1.kIn, ?_⟩) he hpl
  have q' : sp vs H1 Q E := by
    have z : sp (vs ++ []) H1 Q E := q
    rw [List.append_nil] at z
    exact z
  have hl : us.length = ps.length := r.length.symm.trans (F.len _ _ _ _ q')
  have bt := hb s1 us I1.kIn (by rw [List.append_nil]; exact hl)
  rw [List.append_nil] at bt
  refine wpAny_call (codeAny_mono (F.run X.A X.stack s1 H1 ⟨us, []⟩ us vs Q E hgd hr I1.env0 bt r q') fun z s2 hq => ?_)
  cases z with
  | error er => exact hx pins σ H1 s1 er s2 I1 hq
  | ok fl =>
    cases fl with
    | ret u => exact I1.after hq
    | _ => exact hq.elim
end
/-! ## repr of data: None, bools, ints, texts, lists, tuples, dicts with int and text keys -/
def keyD : Key → PyData
  | .inl i => .int i
  | .inr z => .str z
mutual
inductive Dr (K : PySem.W.Frag) (H : Hp) : V → PyData → Prop
  | non : Dr K H .non .none
  | bl (b : Bool) : Dr K H (.bl b) (.bool b)
  | int (i : Int) : Dr K H (.int i) (.int i)
  | str (x : Str) : Dr K H (.str x) (.str x)
  | lst {a : Addr} {xs : List V} {ds : List PyData} : a ≠ sysModules → SqL K H a xs → DrAll K H xs ds → Dr K H (.ref a) (.list ds)
  | tup {a : Addr} {xs : List V} {ds : List PyData} : SqT K H a xs → DrAll K H xs ds → Dr K H (.ref a) (.tuple ds)
  | dct {a : Addr} {kvs : List (Key × V)} {ds : List PyData} : H a = some (.dK kvs) → DrAll K H (kvs.map (·.2)) ds → Dr K H (.ref a) (.dict ((kvs.map fun q => keyD q.1).zip ds))
inductive DrAll (K : PySem.W.Frag) (H : Hp) : List V → List PyData → Prop
  | nil : DrAll K H [] []
  | cons {v : V} {vs : List V} {d : PyData} {ds : List PyData} : Dr K H v d → DrAll K H vs ds → DrAll K H (v :: vs) (d :: ds)
end
section
variable {X : Cx} {pins : List (Addr × Obj)} {σ : L2.St} {H : Hp} {s : Shared}
theorem DrAll.length {K : PySem.W.Frag} : ∀ {vs : List V} {ds : List PyData}, DrAll K H vs ds → vs.length = ds.length
  | _, _, .nil => rfl
  | _, _, .cons _ t => congrArg Nat.succ (DrAll.length t)
theorem key_reads {h : Heap} : ∀ {k : Key} {u : Value}, keyIs k u = true → Reads h u (keyD k) []
  | .inl i, u, e => by
    obtain ⟨t, rfl⟩ := Value.isInt_shape (k := i) (v := u) e
    exact .int i t
  | .inr x, u, e => by
    obtain ⟨t, rfl⟩ := Value.isStrOf_shape (x := x) (v := u) e
    exact .str x t
theorem pairs_reads {P : Program} {w : World} {h : Heap} : ∀ {kvs : List (Key × V)} {vs : List (Key × Value)} {es : List DictEntry}, KV kvs vs → Pairs (mixKind P w) es vs →
    ReadsAll h (es.map (·.key)) (kvs.map fun q => keyD q.1) [] ∧ Vals (kvs.map (·.2)) (es.map (·.val)) := by
  intro kvs
  induction kvs with
  | nil =>
    intro vs es r p
    cases r
    cases p
    exact ⟨.nil, .nil⟩
  | cons kv r ih =>
    intro vs es q p
    cases q with
    | cons h1 t =>
      cases p with
      | cons hk hv t2 =>
        obtain ⟨q1, q2⟩ := ih t t2
        refine ⟨ReadsAll.cons (as := []) (bs := []) (key_reads (by rw [h1.1]; exact hk)) q1, .cons ?_ q2⟩
        have z := h1.2
        rw [← hv] at z
        exact z
theorem zip_fst {α β : Type} : ∀ (l : List α) (r : List β), l.length = r.length → (l.zip r).map (·.1) = l ∧ (l.zip r).map (·.2) = r
  | [], [], _ => ⟨rfl, rfl⟩
  | a :: l, b :: r, h => by
    obtain ⟨h1, h2⟩ := zip_fst l r (Nat.succ.inj h)
    exact ⟨by rw [List.zip_cons_cons, List.map_cons, h1], by rw [List.zip_cons_cons, List.map_cons, h2]⟩
  | [], _ :: _, h => nomatch h
  | _ :: _, [], h => nomatch h
mutual
theorem Dr.reads (I : Inv X pins σ H s) : ∀ {v : V} {d : PyData} {u : Value}, Dr X.K H v d → RelV v u → ∃ as, Reads s.heap u d as ∧ sysModules ∉ as
  | _, _, _, .non, r => by
    cases r
    exact ⟨_, .none, fun z => nomatch z⟩
  | _, _, _, .bl b, r => by
    cases r
    exact ⟨_, .bool b, fun z => nomatch z⟩
  | _, _, _, .int i, r => by
    obtain ⟨t, rfl⟩ := r
    exact ⟨_, .int i t, fun z => nomatch z⟩
  | _, _, _, .str x, r => by
    obtain ⟨t, rfl⟩ := r
    exact ⟨_, .str x t, fun z => nomatch z⟩
  | _, _, _, .lst (a := a) ns hs ha, r => by
    cases r
    obtain ⟨its, rv, ⟨o, n, ho, hc, _, hd⟩, _⟩ := I.list hs
    obtain ⟨as, hr, hn⟩ := DrAll.reads I ha rv
    exact ⟨_, Reads.list ho hc hd hr, fun z => (List.mem_cons.mp z).elim (fun e => ns e.symm) hn⟩
  | _, _, _, .tup hs ha, r => by
    cases r
    obtain ⟨its, rv, ⟨o, ho, hc, n, hd⟩, _⟩ := I.tuple hs
    obtain ⟨as, hr, hn⟩ := DrAll.reads I ha rv
    exact ⟨_, Reads.tuple ho hc hd hr, hn⟩
  | _, _, _, .dct (a := a) (kvs := kvs) (ds := ds) e ha, r => by
    cases r
    obtain ⟨_, ny, vs, kv, o, es, ep, ho, hx, hd, _, hp, _⟩ := I.hok a _ e
    obtain ⟨q1, q2⟩ := pairs_reads (h := s.heap) kv hp
    obtain ⟨bs, hr, hn⟩ := DrAll.reads I ha q2
    have hl : (kvs.map fun q => keyD q.1).length = ds.length := by rw [List.length_map, ← ha.length, List.length_map]
    obtain ⟨z1, z2⟩ := zip_fst (kvs.map fun q => keyD q.1) ds hl
    refine ⟨_, Reads.dict (as := []) (bs := bs) ho hx.1 hd (by rw [z1]; exact q1) (by rw [z2]; exact hr), fun z => ?_⟩
    rcases List.mem_append.mp z with z | z
    · have e2 : sysModules = a := by simpa using z
      rw [← e2] at ny
      exact absurd ny (by decide)
    · exact hn z
theorem DrAll.reads (I : Inv X pins σ H s) : ∀ {vs : List V} {ds : List PyData} {us : List Value}, DrAll X.K H vs ds → Vals vs us → ∃ as, ReadsAll s.heap us ds as ∧ sysModules ∉ as
  | _, _, _, .nil, r => by
    cases r
    exact ⟨_, .nil, fun z => nomatch z⟩
  | _, _, _, .cons h1 h2, r => by
    cases r with
    | cons r1 r2 =>
      obtain ⟨as, q1, n1⟩ := Dr.reads I h1 r1
      obtain ⟨bs, q2, n2⟩ := DrAll.reads I h2 r2
      exact ⟨_, .cons q1 q2, fun z => (List.mem_append.mp z).elim n1 n2⟩
end
mutual
theorem Dr.same {K : PySem.W.Frag} {H H' : Hp} (e : Same H H') (et : ∀ a xs, SqT K H a xs → SqT K H' a xs) : ∀ {v : V} {d : PyData}, Dr K H v d → Dr K H' v d
  | _, _, .non => .non
  | _, _, .bl b => .bl b
  | _, _, .int i => .int i
  | _, _, .str x => .str x
  | _, _, .lst ns hs ha => .lst ns (e.seq hs) (DrAll.same e et ha)
  | _, _, .tup hs ha => .tup (et _ _ hs) (DrAll.same e et ha)
  | _, _, .dct h ha => .dct (e _ _ h) (DrAll.same e et ha)
theorem DrAll.same {K : PySem.W.Frag} {H H' : Hp} (e : Same H H') (et : ∀ a xs, SqT K H a xs → SqT K H' a xs) : ∀ {vs : List V} {ds : List PyData}, DrAll K H vs ds → DrAll K H' vs ds
  | _, _, .nil => .nil
  | _, _, .cons h t => .cons (Dr.same e et h) (DrAll.same e et t)
end
theorem same_seqT {K : PySem.W.Frag} {H H' : Hp} {a : Addr} {xs : List V} (e : Same H H') (h : SqT K H a xs) : SqT K H' a xs := by
  rcases h with (h | ⟨o, h⟩) | h
  · exact .inl (.inl (e _ _ h))
  · exact .inl (.inr ⟨o, e _ _ h⟩)
  · exact .inr h
theorem Dr.keep {K : PySem.W.Frag} {H H' : Hp} {v : V} {d : PyData} (h : Dr K H v d) (e : Same H H') : Dr K H' v d := h.same e fun _ _ => same_seqT e
theorem DrAll.keep {K : PySem.W.Frag} {H H' : Hp} {v : List V} {d : List PyData} (h : DrAll K H v d) (e : Same H H') : DrAll K H' v d := h.same e fun _ _ => same_seqT e
end
/-- a list's, a tuple's, a dict's repr -/
def rRepr (K : PySem.W.Frag) : List V → Hp → VK → Prop := fun xs H Q => ∃ (a : Addr) (d : PyData), xs = [.ref a] ∧ Dr K H (.ref a) d ∧ d.showable = true ∧ d.depth ≤ 60 ∧ d.shown.length ≤ sizeLine ∧ Q (.str d.shown) H
theorem call_repr {X : Cx} {k : Nat} (hg : X.A.guards = some []) (hr : Room k X.A) : CallR X (.builtin "repr") (rRepr X.K) := by
  intro pins s σ H xs us Q I r h
  obtain ⟨a, d, rfl, hd, hs, hdp, hz, q⟩ := h
  obtain ⟨u, rfl, ru⟩ := vals1 r
  obtain ⟨as, rd, nm⟩ := hd.reads I ru
  cases ru
  refine repr_of_reads' rd hs (fun _ => nm) hg ?_ (fun _ _ e => e) (fun h' u tk hk => ?_) hz
  · have := hr.units
    omega
  · exact ⟨.str d.shown, H, I.kept hk, ⟨u, rfl⟩, q⟩
/-- a list display, its place no table of the machine's -/
def tLstN (t : TA) : TE := fun σ H Q => t σ H fun xs H1 => xs.length ≤ sizeLine ∧ ∀ p, H1 p = none → p ≠ sysModules → Q (.ref p) (upd H1 p (.lst xs))
theorem pe_lstN {X : Cx} {es : List Expr} {t : TA} {pos : Pos} (h : PA X es t) : PE X (.List es pos) (tLstN t) := by
  refine ⟨fun pins s σ H Q I q0 => wpAny_List_spliced (thn (h.run pos pins s σ H _ I q0) fun us s1 ⟨xs, H1, I1, r, z, q⟩ => ⟨r.length ▸ z, ?_⟩)⟩
  have hf : H1 s1.heap.objs.size = none := I1.fresh
  have hn : s1.heap.objs.size ≠ sysModules := Nat.ne_of_gt I1.big
  exact ⟨.ref s1.heap.objs.size, _, I1.laid (t' := s1.toks) (o := .lst xs) (fun b u e => Heap.get?_push_of_some _ e) (Nat.le_refl _) ⟨z, us, 0, r, Heap.get?_push_size _ rfl⟩, rfl, q _ hf hn⟩
end Vk
set_option Elab.async false
set_option linter.all false
set_option maxRecDepth 100000
set_option maxHeartbeats 4000000
namespace PySem
namespace Vx
open PySem.W PySem.Calls PyProof.Rows PySem.HandSPX Builtin Builtin.ObjectAttr
abbrev exB : List Value := [.type "Exception", .type "BaseException", .type "object"]
/-! ### the text of such an __init__: self.p = p -/
def iA (p : Str) (p1 p2 : Pos) : Arguments := { posonlyargs := [], args := [{ arg := "self", annotation := none, pos := p1 }, { arg := p, annotation := none, pos := p2 }], vararg := none, kwonlyargs := [], kw_defaults := [], kwarg := none, defaults := [] }
def iB (p : Str) (q1 q2 q3 q4 : Pos) : List Stmt := [.Assign [.Attribute (.Name "self" q1) p q2] (.Name p q3) q4]
def iS (p : Str) : Scope := { kind := .function, names := [(PySem.Str.ofString "self", .local), (p, .local)], isGenerator := false, isCoroutine := false, more := [] }
/-- what the written part says of an own error class at C (no own metaclass, base Exception in the end), as one look -/
def ecB (K : Frag) (C : Addr) : Bool := excInitIn K C exB "Exception.__new__" && (excOver K C exB && (hasDictIn K C && (decide (findIn K (.ref C) "__setattr__" = some (some (.builtin "object.__setattr__"))) &&
  (decide (findIn K (.ref C) "__getattribute__" = some (some (.builtin "BaseException.__getattribute__"))) && (decide (findIn K (.ref C) "__getattr__" = some none) && (decide (findIn K (.ref C) "__class__" = some (some (.builtin "object.__class__"))) &&
  (keepIn K (.ref C) && (decide (subIn K (.ref C) (.type "BaseException") = some true) && (decide (typeIn K (.ref C) = some (.type "type")) && (decide (mroIn K C (.type "object") = some true) &&
  (decide (specialIn K (.builtin "object.__class__") "__get__" = some (some (.builtin "getset_descriptor.__get__"))) && decide (takesIn K (.builtin "object.__class__") = some true))))))))))))
structure EcK (K : Frag) (C : Addr) : Prop where
  mke : excInitIn K C exB "Exception.__new__" = true
  ov : excOver K C exB = true
  hd : hasDictIn K C = true
  sa : findIn K (.ref C) "__setattr__" = some (some (.builtin "object.__setattr__"))
  ga : findIn K (.ref C) "__getattribute__" = some (some (.builtin "BaseException.__getattribute__"))
  gg : findIn K (.ref C) "__getattr__" = some none
  cl : findIn K (.ref C) "__class__" = some (some (.builtin "object.__class__"))
  kp : keepIn K (.ref C) = true
  ex : subIn K (.ref C) (.type "BaseException") = some true
  ty : typeIn K (.ref C) = some (.type "type")
  ob : mroIn K C (.type "object") = some true
  gt : specialIn K (.builtin "object.__class__") "__get__" = some (some (.builtin "getset_descriptor.__get__"))
  tk : takesIn K (.builtin "object.__class__") = some true
theorem ecK_of {K : Frag} {C : Addr} (h : ecB K C = true) : EcK K C := by
  unfold ecB at h
  simp only [Bool.and_eq_true, decide_eq_true_eq] at h
  obtain ⟨h1, h2, h3, h4, h5, h6, h7, h8, h9, h10, h11, h12, h13⟩ := h
  exact ⟨h1, h2, h3, h4, h5, h6, h7, h8, h9, h10, h11, h12, h13⟩
/-- its own __init__ at fI, one parameter p, kept under that name -/
structure EcI (K : Frag) (C fI : Addr) (p : Str) : Prop where
  noN : findIn K (.ref C) p = some none
  iC : findIn K (.ref C) "__init__" = some (some (.ref fI))
  tI : typeIn K (.ref fI) = some (.type "function")
  ns : (p == ("self" : Str)) = false
  nd : (p == ("__debug__" : Str)) = false
  fn : ∃ (q : Str) (oc : Value) (od : Option Addr) (doc pm : Value) (an : Option Addr) (cdv ct : Value) (osl : Array (Option Value)) (p1 p2 q1 q2 q3 q4 : Pos),
    K.lookup fI = some ⟨oc, od, .func (fnOf "__init__" q (iA p p1 p2) (iB p q1 q2 q3 q4) (iS p) .none .none doc pm an cdv ct), osl⟩ ∧ codeIn K cdv q = true
  b1 : ∀ (q : Str) (doc pm : Value) (an : Option Addr) (cdv ct : Value) (p1 p2 q1 q2 q3 q4 : Pos) (x v : Value), bindArgs (fnOf "__init__" q (iA p p1 p2) (iB p q1 q2 q3 q4) (iS p) .none .none doc pm an cdv ct) ⟨[x, v], []⟩ = pure ([("self", x), (p, v)] : List (Str × Value))
  b2 : ∀ (q : Str) (doc pm : Value) (an : Option Addr) (cdv ct : Value) (p1 p2 q1 q2 q3 q4 : Pos) (x v : Value), bindArgs (fnOf "__init__" q (iA p p1 p2) (iB p q1 q2 q3 q4) (iS p) .none .none doc pm an cdv ct) ⟨[x], [(p, v)]⟩ = pure ([("self", x), (p, v)] : List (Str × Value))
/-- what __init__ leaves of a fresh exception at x -/
structure InitEnd (h h' : Heap) (x C dx t1 : Addr) (p : Str) (v : Value) : Prop where
  keep : ∀ b o, b ≠ x → h.get? b = some o → h'.get? b = some o
  obj : h'.get? x = some { cls := .ref C, dict := some dx, data := .fields #[.ref t1, .none, .none, .none, .bool false, .none] }
  dbig : h.objs.size ≤ dx
  dne : dx ≠ x
  ns : h'.Ns1 dx (fun y => if y = p then some v else none)
/-- a made one -/
structure Made (h h' : Heap) (e C d : Addr) (p : Str) (v : Value) : Prop where
  keep : ∀ b o, h.get? b = some o → h'.get? b = some o
  new : h.objs.size ≤ e
  obj : ∃ t1 : Addr, h'.get? e = some { cls := .ref C, dict := some d, data := .fields #[.ref t1, .none, .none, .none, .bool false, .none] }
  dbig : h.objs.size ≤ d
  dne : d ≠ e
  ns : h'.Ns1 d (fun y => if y = p then some v else none)
section
variable {prog : Program} {w : World} {A : Around} {E : Value → Shared → Prop} {R : Result → Shared → Prop} {s : Shared} {K : Frag} {C fI : Addr} {p : Str}
theorem store0 {hp : Heap} {g : Array GenState} {d : Drawn} {t : Nat} {os : OsState} {tk : Tok} {v : Value} {x t0 : Addr} (T : EcK K C) (X : K.In hp) (no : findIn K (.ref C) p = some none) (hx : hp.get? x = some (excO C t0))
    (go : ∀ h' tk' dx, (∀ b o, b ≠ x → hp.get? b = some o → h'.get? b = some o) → hp.objs.size ≤ dx → dx ≠ x → h'.get? x = some { cls := .ref C, dict := some dx, data := .fields #[.ref t0, .none, .none, .none, .bool false, .none] } →
      h'.Ns1 dx (fun y => if y = p then some v else none) → R (.ok (.ret .none)) ⟨h', g, d, tk', os⟩) :
    codeAny (model prog w) A (.call (.builtin "object.__setattr__") ⟨[.ref x, .str p tk, v], []⟩) R ⟨hp, g, d, t, os⟩ := by
  refine osa_openX (s := ⟨hp, g, d, t, os⟩) (od := none) (r := none) F.store_Exception X ⟨hx, rfl, rfl, trivial⟩ T.ov (by unfold takerIn; rw [no] <;> rfl) fun b => ?_
  obtain ⟨cd, hc, hdd⟩ := any_some T.hd
  have hne : x ≠ hp.objs.size := Nat.ne_of_lt (Heap.lt_size hx)
  refine wpAny_bind (wpAny_pure (wpAny_bind (instanceDict_exc hx (looks_clsIn X hc) hdd ?_)))
  show wpAny _ _ (storeInDict hp.objs.size (.str p tk) p v) _ _ _
  refine store_in_new ⟨_, #[], _, (Heap.get?_update_ne _ _ _ _ hne.symm).trans (Heap.get?_push_at rfl rfl), rfl, fun e he => absurd he (by simp), fun _ => rfl⟩ fun h' tk' hn hs => ?_
  have hx1 : (hp.push (dictOf [] 0)).get? x = some (excO C t0) := Heap.get?_push_of_some _ hx
  refine go h' tk' hp.objs.size (fun b o hb ho => ?_) (Nat.le_refl _) hne.symm ?_ hn
  · exact (hs.2 b (Nat.ne_of_lt (Heap.lt_size ho))).trans ((Heap.get?_update_ne _ _ _ _ hb).trans (Heap.get?_push_of_some _ ho))
  · exact (hs.2 x hne).trans (Heap.get?_update_self _ hx1 rfl)
theorem lkP (ns : (p == ("self" : Str)) = false) : (iS p).names.lookup p = some .local := by
  show List.lookup p [(PySem.Str.ofString "self", NameKind.local), (p, NameKind.local)] = some .local
  rw [List.lookup_cons, ns, List.lookup_cons, beq_self_eq_true]
theorem initE (T : EcK K C) (U : EcI K C fI p) {x t0 : Addr} {v : Value} {args : Args} (X : K.In s.heap) (hlim : s.heap.NoLimit) (hx : s.heap.get? x = some (excO C t0)) (room : A.depth < recursionLimit)
    (ha : args = ⟨[.ref x, v], []⟩ ∨ args = ⟨[.ref x], [(p, v)]⟩) (go : ∀ h' tk dx, InitEnd s.heap h' x C dx t0 p v → R (.ok (.ret .none)) { s with heap := h', toks := tk }) :
    codeAny (model prog w) A (.call (.ref fI) args) R s := by
  obtain ⟨q, oc, od, doc, pm, an, cdv, ct, osl, p1, p2, q1, q2, q3, q4, ho, hcd⟩ := U.fn
  have hbd : BindsTo s (fnOf "__init__" q (iA p p1 p2) (iB p q1 q2 q3 q4) (iS p) .none .none doc pm an cdv ct) args ([("self", .ref x), (p, v)] : List (Str × Value)) := by
    rcases ha with rfl | rfl
    · exact .of_eq (U.b1 _ _ _ _ _ _ _ _ _ _ _ _ _ _)
    · exact .of_eq (U.b2 _ _ _ _ _ _ _ _ _ _ _ _ _ _)
  refine Att.call_fn (binds := ([("self", .ref x), (p, v)] : List (Str × Value))) X hlim ho hcd room hbd ?_ (fun s₁ IC => ?_) rfl rfl rfl
  · have z1 : ((iS p).names.lookup ("self" : Str) == some NameKind.local || (iS p).names.lookup ("self" : Str) == some NameKind.cell) = true := by rfl
    have z2 : ((iS p).names.lookup p == some NameKind.local || (iS p).names.lookup p == some NameKind.cell) = true := by rw [lkP U.ns] <;> rfl
    simp only [List.all_cons, List.all_nil, z1, z2, Bool.and_self]
  obtain ⟨h₁, tk₁, rfl⟩ := IC.toInCall.same
  have kp : ∀ b o, s.heap.get? b = some o → h₁.get? b = some o := IC.toInCall.keep
  have hn := IC.toInCall.ns
  have X1 : K.In h₁ := X.keeps kp
  have hx1 := kp _ _ hx
  have kl : (envOfC q (iS p) s.heap.objs.size fI cdv).kindOf p = some .local := lkP U.ns
  have ks : (envOfC q (iS p) s.heap.objs.size fI cdv).kindOf "self" = some .local := by rfl
  have nd2 : ([("self" : Str), p]).Nodup := by
    have z : ¬ (("self" : Str) = p) := fun e => by
      have y := U.ns
      rw [← e] at y
      simp at y
    simp [z]
  have vp := L2.bindL_get (P := [("self" : Str), p]) (vs := [Value.ref x, v]) (i := 1) (m := fun _ => none) nd2 rfl rfl kl
  have vsf := L2.bindL_get (P := [("self" : Str), p]) (vs := [Value.ref x, v]) (i := 0) (m := fun _ => none) nd2 rfl rfl ks
  show wpAny _ _ (execs _ _) _ _ _
  refine wpAny_execs_cons (plainObj_wpAny_Assign_Attribute ?_)
  refine wpAny_Name (wpAny_loadName_local rfl kl hn vp ?_) U.nd
  refine wpAny_Name (wpAny_loadName_local rfl ks hn vsf ?_) (by decide)
  refine set_plain X1 (ox := excO C t0) (od := none) ⟨hx1, rfl, rfl, trivial⟩ T.sa ?_
  refine store0 T X1 U.noN hx1 (fun h₃ tk₃ dx k₃ dn dne hx₃ hn₃ => ?_)
  show wpAny _ _ (execs _ _) _ _ _
  have z : s.heap.objs.size < h₁.objs.size := hn.lt
  exact wpAny_execs_nil (go h₃ tk₃ dx ⟨fun b o hb e => k₃ b o hb (kp b o e), hx₃, Nat.le_of_lt (Nat.lt_of_lt_of_le z dn), dne, hn₃⟩)
theorem one_sz (v : Value) : [v].length ≤ sizeLine := by
  rw [sizeLine_eq]
  exact (by decide : 1 ≤ 16777216)
/-- C(v), C(p = v) -/
theorem madeE (T : EcK K C) (U : EcI K C fI p) {v : Value} {args : Args} (X : K.In s.heap) (hlim : s.heap.NoLimit) (room : A.depth + 1 < recursionLimit) (ha : args = ⟨[v], []⟩ ∨ args = ⟨[], [(p, v)]⟩)
    (go : ∀ h' tk e d, Made s.heap h' e C d p v → R (.ok (.ret (.ref e))) { s with heap := h', toks := tk }) : codeAny (model prog w) A (.call (.ref C) args) R s := by
  obtain ⟨nm, N, qn, bs, bm, hdct, sn, sub, ab, col, dd, k0, k1, k2, k3, k5, hC, tl⟩ := excInit_of X T.mke
  obtain ⟨hp, g, dr, tk, os⟩ := s
  have main : ∀ (rest : List Value) (kw : List (Str × Value)), rest.length ≤ sizeLine → (∀ x : Addr, (⟨.ref x :: rest, kw⟩ : Args) = ⟨[.ref x, v], []⟩ ∨ (⟨.ref x :: rest, kw⟩ : Args) = ⟨[.ref x], [(p, v)]⟩) → codeAny (model prog w) A (.call (.ref C) ⟨rest, kw⟩) R ⟨hp, g, dr, tk, os⟩ := by
    intro rest kw hr hk
    have kp : ∀ b o, hp.get? b = some o → ((hp.push (kdv_tup rest)).push (excO C hp.objs.size)).get? b = some o := fun b o e => Heap.get?_push_of_some _ (Heap.get?_push_of_some _ e)
    have hget : ((hp.push (kdv_tup rest)).push (excO C hp.objs.size)).get? (hp.objs.size + 1) = some (excO C hp.objs.size) := by heap_get
    refine callE F.excBase_Exception tl hC (looks_findIn X U.iC) (fun self => bind_fn X self U.tI) hr ?_
    refine initE (s := ⟨(hp.push (kdv_tup rest)).push (excO C hp.objs.size), g, dr, tk, os⟩) T U (X.keeps kp) (hlim.keeps kp) hget ?_ (hk _) fun h' tk' dx ⟨k', hx, dn, dne, hns⟩ => ?_
    · show (A.under _).depth < _
      exact Nat.lt_of_le_of_lt (Nat.le_of_eq L2.make_depth) room
    · have old : ∀ b o, hp.get? b = some o → h'.get? b = some o := fun b o e => k' b o (Nat.ne_of_lt (Nat.lt_succ_of_lt (Heap.lt_size e))) (kp b o e)
      have z : hp.objs.size + 1 + 1 ≤ dx := by
        have q := dn
        rw [Heap.size_push, Heap.size_push] at q
        exact q
      exact ⟨rfl, go h' tk' (hp.objs.size + 1) dx ⟨old, Nat.le_succ _, ⟨_, hx⟩, Nat.le_trans (Nat.le_trans (Nat.le_succ _) (Nat.le_succ _)) z, dne, hns⟩⟩
  rcases ha with rfl | rfl
  · exact main _ _ (one_sz v) fun x => .inl rfl
  · exact main _ _ (Nat.zero_le _) fun x => .inr rfl
end
end Vx
end PySem
set_option Elab.async false
set_option linter.all false
set_option maxRecDepth 100000
set_option maxHeartbeats 4000000
namespace Vk
open PySem PySem.Spec PyProof.Rows L2 PySem.Vx
/-- an exception of the class cls stands at a, its own dict d -/
def ExV (cls : Value) (d : Option Addr) (a : Addr) : HO := .ext fun h => ∃ (oe : Obj) (vs : Array Value), h.get? a = some oe ∧ Zc cls d oe ∧ oe.data = .fields vs
theorem exV_ok {P : Program} {w : World} {H : Hp} {h : Heap} {a : Addr} {cls : Value} {d : Option Addr} {oe : Obj} {vs : Array Value} (e : h.get? a = some oe) (z : Zc cls d oe) (q : oe.data = .fields vs) : ObjOk P w H h a (ExV cls d a) :=
  ⟨⟨oe, vs, e, z, q⟩, ⟨oe, e⟩, fun _ _ ⟨o, v, q, r⟩ k => ⟨o, v, k o q, r⟩⟩
theorem exV_at {P : Program} {w : World} {H : Hp} {h : Heap} {a : Addr} {cls : Value} {d : Option Addr} (k : HOk P w H h) (e : H a = some (ExV cls d a)) : ∃ (oe : Obj) (vs : Array Value), h.get? a = some oe ∧ Zc cls d oe ∧ oe.data = .fields vs := (k a _ e).1
theorem relO_one {p : Str} {v : V} {u : Value} (r : L2.RelV v u) (f : Str) : RelO (List.lookup f [(p, v)]) (if f = p then some u else none) := by
  by_cases h : f = p
  · rw [h, if_pos rfl, List.lookup_cons, beq_self_eq_true]
    exact r
  · have e : (f == p) = false := by simpa using h
    rw [if_neg h, List.lookup_cons, e]
    trivial
section
variable {X : Cx} {pins : List (Addr × Obj)} {σ : L2.St} {H : Hp} {s : Shared} {C fI : Addr} {p x : Str}
/-- two new objects: the exception, its dict -/
theorem Inv.made2 {h' : Heap} {e d : Addr} {v : V} {u : Value} {tk : Nat} (I : Inv X pins σ H s) (M : Made s.heap h' e C d p u) (r : L2.RelV v u) :
    H e = none ∧ H d = none ∧ d ≠ e ∧ Inv X pins σ (upd (upd H d (.xd [(p, v)])) e (ExV (.ref C) (some d) e)) { s with heap := h', toks := tk } := by
  have ne := I.hok.fresh M.new
  have nd := I.hok.fresh M.dbig
  obtain ⟨t1, ho⟩ := M.obj
  refine ⟨ne, nd, M.dne, ?_⟩
  have un0 : ∀ b o, s.heap.get? b = some o → b ≠ e ∧ b ≠ d := fun b o q => ⟨Nat.ne_of_lt (Nat.lt_of_lt_of_le (Heap.lt_size q) M.new), Nat.ne_of_lt (Nat.lt_of_lt_of_le (Heap.lt_size q) M.dbig)⟩
  have tr : ∀ b o, H b = some o → (upd (upd H d (.xd [(p, v)])) e (ExV (.ref C) (some d) e)) b = some o := fun b o q => by rw [upd_ne (ne_of_none q ne), upd_ne (ne_of_none q nd)]; exact q
  have U : Un X.fs [] H (upd (upd H d (.xd [(p, v)])) e (ExV (.ref C) (some d) e)) s.heap h' := {
    keep := fun b o q _ _ _ => M.keep b o q
    slot := fun b o q _ _ _ => ⟨o.slots, M.keep b o q⟩
    free := fun b o q n _ => by rw [upd_ne (un0 b o q).1, upd_ne (un0 b o q).2]; exact n
    there := fun b o q _ => ⟨o, M.keep b o q⟩
    tups := fun b xs q => tr b _ q
    frzs := fun b o xs q => tr b _ q
    tbls := fun b ps q => ⟨#[], by rw [tr b _ q]; simp⟩ }
  refine I.un (t' := tk) U fun b o q => ?_
  by_cases hb : b = e
  · subst hb
    rw [upd_same] at q
    cases q
    exact exV_ok ho ⟨rfl, rfl⟩ rfl
  · rw [upd_ne hb] at q
    by_cases hd : b = d
    · subst hd
      rw [upd_same] at q
      cases q
      exact ⟨_, M.ns, fun f => relO_one r f⟩
    · rw [upd_ne hd] at q
      exact (I.hok b o q).stay (fun c y _ z => M.keep c y z) (fun c z => tr c _ z) fun c xs z => tr c _ z
theorem run_mkE (T : EcK X.K C) (U : EcI X.K C fI p) {k : Nat} (hr : Room k X.A) (I : Inv X pins σ H s) {v : V} {u : Value} (r : L2.RelV v u) {Q : VK} {us : List Value} {kw : List (Str × Value)} (ha : (⟨us, kw⟩ : Args) = ⟨[u], []⟩ ∨ (⟨us, kw⟩ : Args) = ⟨[], [(p, u)]⟩)
    (q : ∀ a d, H a = none → H d = none → d ≠ a → Q (.ref a) (upd (upd H d (.xd [(p, v)])) a (ExV (.ref C) (some d) a))) : wpAny (model X.prog X.w) X.A (call (.ref C) us kw) (EP X pins σ Q) X.xe s := by
  refine wpAny_call (madeE T U I.kIn I.nolimit (by have := hr.dp; omega) ha fun h' tk e d M => ?_)
  obtain ⟨n1, n2, n3, J⟩ := Inv.made2 (tk := tk) I M r
  exact ⟨.ref e, _, J, rfl, q e d n1 n2 n3⟩
def tMkE (C : Addr) (p : Str) (t : TA) : TE := fun σ H Q => t σ H fun vs H1 => ∃ v, vs = [v] ∧ ∀ a d, H1 a = none → H1 d = none → d ≠ a → Q (.ref a) (upd (upd H1 d (.xd [(p, v)])) a (ExV (.ref C) (some d) a))
/-- X(e), an own error, as a value -/
theorem pe_mkE {e : Expr} {t : TA} {np pos : Pos} {k : Nat} (T : EcK X.K C) (U : EcI X.K C fI p) (gC : X.mg x = some (.ref C)) (hr : Room k X.A) (ha : PA X [e] t) (hg : Gl X x := by rfl) (hdb : (x == ("__debug__" : Str)) = false := by decide)
    (he : starEach (e :: []) X.env = (false, eval e X.env) :: starEach [] X.env := by rfl) (hpl : (backTo pos (starEach [] X.env)).any (·.1) = false := by rfl) : PE X (.Call (.Name x np) [e] [] pos) (tMkE C p t) := by
  refine ⟨fun pins s σ H Q I h => wpAny_Call_Name_kw (ld_glob I hg gC ?_ hdb)⟩
  refine PySem.W.callWith_K (h₀ := X.base) I.ok.mod.kin T.kp (thn (ha.run pos pins s σ H _ I h) fun us s1 ⟨vs, H1, I1, r, v, ev, q⟩ => ⟨I1.kIn, ?_⟩) he hpl
  subst ev
  obtain ⟨u, rfl, ru⟩ := vals1 r
  exact run_mkE T U hr I1 ru (.inl rfl) q
/-- X(p = e) -/
theorem pe_mkEk {e : Expr} {te : TE} {np pos kpos : Pos} {k : Nat} (T : EcK X.K C) (U : EcI X.K C fI p) (gC : X.mg x = some (.ref C)) (hr : Room k X.A) (ha : PE X e te) (hg : Gl X x := by rfl) (hdb : (x == ("__debug__" : Str)) = false := by decide)
    (hall : (backToKw pos (keywordEach [⟨some p, e, kpos⟩] X.env)).all (·.1.isSome) = true := by rfl) (hks : (backToKw pos (keywordEach [⟨some p, e, kpos⟩] X.env)).filterMap (·.1) = [p] := by rfl)
    (hpl : ((backTo pos (starEach [] X.env)).any (·.1) || (backToKw pos (keywordEach [⟨some p, e, kpos⟩] X.env)).any (·.1.isNone)) = false := by rfl) : PE X (.Call (.Name x np) [] [⟨some p, e, kpos⟩] pos) (tMkE C p (tCons te tNil)) := by
  refine ⟨fun pins s σ H Q I h => wpAny_Call_Name_kw (ld_glob I hg gC ?_ hdb)⟩
  have hk : PK X [⟨some p, e, kpos⟩] (tCons te tNil) := pk_cons ha pk_nil
  refine PySem.W.callWith_KW0 (h₀ := X.base) I.ok.mod.kin T.kp hall (thn (hk.run pos pins s σ H _ I h) fun us s1 ⟨vs, H1, I1, r, v, ev, q⟩ => ⟨I1.kIn, ?_⟩) hpl
  subst ev
  obtain ⟨u, rfl, ru⟩ := vals1 r
  rw [hks]
  exact run_mkE T U hr I1 ru (.inr rfl) q
/-- a bare own error: no __init__ of its own, no argument -/
theorem made0 {Q : Value → Shared → Prop} {A : Around} {E : Value → Shared → Prop} (T : EcK X.K C) (h0 : PySem.W.findIn X.K (.ref C) "__init__" = some (some (.builtin "Exception.__init__"))) (I : Inv X pins σ H s)
    (q : ∀ (h' : Heap) (a t : Addr), (∀ b o, s.heap.get? b = some o → h'.get? b = some o) → s.heap.objs.size ≤ a → h'.get? a = some (PySem.W.excObj C t none .none) → Q (.ref a) { s with heap := h' }) : wpAny (model X.prog X.w) A (call (.ref C) []) Q E s := by
  obtain ⟨nm, N, qn, bs, bm, hdct, sn, sub, ab, col, dd, k0, k1, k2, k3, k5, hC, tl⟩ := PySem.W.excInit_of I.kIn T.mke
  have hi := PySem.W.looks_findIn (M := model X.prog X.w) I.kIn h0
  obtain ⟨hp, g, d, t, os⟩ := s
  exact PySem.W.call_B F.excBase_Exception tl hC hi (Nat.zero_le _) fun h' k e _ => q h' _ _ k (Nat.le_succ _) e
def tMk0 (C : Addr) : TE := fun _ H Q => ∀ a, H a = none → Q (.ref a) (upd H a (ExV (.ref C) none a))
theorem pe_mk0 {np pos : Pos} (T : EcK X.K C) (h0 : PySem.W.findIn X.K (.ref C) "__init__" = some (some (.builtin "Exception.__init__"))) (gC : X.mg x = some (.ref C)) (hg : Gl X x := by rfl) (hdb : (x == ("__debug__" : Str)) = false := by decide) :
    PE X (.Call (.Name x np) [] [] pos) (tMk0 C) := by
  refine ⟨fun pins s σ H Q I h => wpAny_Call_Name_kw (ld_glob I hg gC ?_ hdb)⟩
  refine PySem.W.callWith_K0 I.kIn T.kp (made0 T h0 I fun h' a t k na ha => ?_)
  exact ⟨.ref a, _, I.laid (t' := s.toks) (o := ExV (.ref C) none a) k na (exV_ok ha ⟨rfl, rfl⟩ rfl), rfl, h a (I.hok.fresh na)⟩
/-- e.f, e an own error -/
def tExf (C : Addr) (f : Str) (te : TE) : TE := fun σ H Q => te σ H fun y H1 => ∃ (a dd : Addr) (fs : List (Str × V)) (v : V), y = .ref a ∧ H1 a = some (ExV (.ref C) (some dd) a) ∧ H1 dd = some (.xd fs) ∧ fs.lookup f = some v ∧ Q v H1
theorem inst_of {H1 : Hp} {a : Addr} {d : Option Addr} (I : Inv X pins σ H1 s) (ha : H1 a = some (ExV (.ref C) d a)) (hd : ∀ dd, d = some dd → ∃ fs, H1 dd = some (.xd fs)) : ∃ (oe : Obj) (od : Option Obj), PySem.W.InstAt s.heap a oe C od ∧
    ∀ dd fs, d = some dd → H1 dd = some (.xd fs) → ∃ o, od = some o ∧ ∀ n v, fs.lookup n = some v → ∃ u, PySem.W.lookIn n o = some (some u) ∧ L2.RelV v u := by
  obtain ⟨oe, vs, ho, hz, hv⟩ := exV_at I.hok ha
  have nc : PySem.W.notCls oe = true := by
    unfold PySem.W.notCls
    rw [hv] <;> rfl
  cases d with
  | none =>
    refine ⟨oe, none, ⟨ho, hz.1, nc, ?_⟩, fun dd _ z => nomatch z⟩
    rw [hz.2]
    trivial
  | some dd =>
    obtain ⟨fs, hf⟩ := hd dd rfl
    obtain ⟨mA, hns, hr⟩ := (show ObjOk X.prog X.w H1 s.heap dd (.xd fs) from I.hok dd _ hf)
    obtain ⟨od, hod, hl⟩ := lookIn_ns hns
    refine ⟨oe, some od, ⟨ho, hz.1, nc, ?_⟩, fun d2 fs2 e2 h2 => ?_⟩
    · rw [hz.2]
      exact hod
    · cases e2
      rw [hf] at h2
      cases h2
      refine ⟨od, rfl, fun n v e => ?_⟩
      obtain ⟨u, hu, ru⟩ := RelO.some_of (v := v) (o := mA n) (by rw [← e]; exact hr n)
      exact ⟨u, by rw [hl, hu], ru⟩
theorem pe_exf {e : Expr} {te : TE} {n : Str} {pos : Pos} (T : EcK X.K C) (hno : PySem.W.findIn X.K (.ref C) n = some none) (he : PE X e te) (hb : attributeBase e n X.env (eval e X.env) = eval e X.env := by rfl) : PE X (.Attribute e n pos) (tExf C n te) := by
  refine ⟨fun pins s σ H Q I h => attr_of hb (thn (he.run pins s σ H _ I h) fun u s1 ⟨y, H1, I1, ry, a, dd, fs, v, ey, ha, hd, hl, q⟩ => ?_)⟩
  subst ey
  obtain rfl : u = Value.ref a := ry
  obtain ⟨oe, od, J, look⟩ := inst_of I1 ha fun d2 e2 => ⟨fs, by cases e2; exact hd⟩
  obtain ⟨o, rfl, lk⟩ := look dd fs rfl hd
  obtain ⟨w', hw, rw'⟩ := lk n v hl
  exact HandSPX.exc_get I1.kIn J T.ga T.gg T.ex (PySem.W.findObj_own T.hd hno rfl hw) (handed_of rw') ⟨v, H1, I1.tok _, rw', q⟩
/-- isinstance(e, c), e an own error -/
def rIsX (K : PySem.W.Frag) (C : Addr) : List V → Hp → VK → Prop := fun xs H Q => ∃ (a : Addr) (d : Option Addr) (c : V) (cv : Value) (b : Bool), xs = [.ref a, c] ∧ H a = some (ExV (.ref C) d a) ∧ (∀ dd, d = some dd → ∃ fs, H dd = some (.xd fs)) ∧
  (∀ u, L2.RelV c u → u = cv) ∧ PySem.W.kitOne K (.ref C) cv = some b ∧ Q (.bl b) H
theorem call_isX (T : EcK X.K C) : CallR X (.builtin "isinstance") (rIsX X.K C) := by
  intro pins s σ H xs us Q I r h
  obtain ⟨a, d, c, cv, b, rfl, ha, hd, hc, e, q⟩ := h
  obtain ⟨u1, u2, rfl, r1, r2⟩ := vals2 r
  cases r1
  have ec := hc _ r2
  subst ec
  obtain ⟨oe, od, J, _⟩ := inst_of I ha hd
  have hcl : (PySem.W.clsIn X.K C).isSome = true := by
    obtain ⟨cd, hcd, _⟩ := PySem.W.any_some T.hd
    rw [hcd]
    rfl
  exact PySem.W.kia_one (PySem.W.kitx_exc hcl T.ga T.gg T.ex T.cl T.gt T.tk T.ob) I.kIn J e (fun z => nomatch z) fun tk => ⟨.bl b, H, I.kept (t' := tk) fun _ _ z => z, rfl, q⟩
end
end Vk
set_option Elab.async false
set_option linter.all false
set_option maxRecDepth 100000
set_option maxHeartbeats 4000000
namespace Vk
open PySem PySem.Spec PyProof.Rows L2 PySem.Vx
section
variable {X : Cx} {pins : List (Addr × Obj)} {σ : L2.St} {H : Hp} {s : Shared} {C fI : Addr} {p x : Str}
/-- raise X(e): the error is let go, its dict stands -/
theorem pmk_E {e : Expr} {t : TA} {np pos : Pos} {k : Nat} (T : EcK X.K C) (U : EcI X.K C fI p) (gC : X.mg x = some (.ref C)) (hr : Room k X.A) (ha : PA X [e] t) (hg : Gl X x := by rfl) (hdb : (x == ("__debug__" : Str)) = false := by decide)
    (he : starEach (e :: []) X.env = (false, eval e X.env) :: starEach [] X.env := by rfl) (hpl : (backTo pos (starEach [] X.env)).any (·.1) = false := by rfl) :
    PMk X (.Call (.Name x np) [e] [] pos) (fun σ H Q => t σ H fun vs H1 => ∃ v, vs = [v] ∧ ∀ d, H1 d = none → Q (.ref C) (some d) (upd H1 d (.xd [(p, v)]))) := by
  intro pins s σ H Q I h
  refine wpAny_Call_Name_kw (ld_glob I hg gC ?_ hdb)
  refine PySem.W.callWith_K (h₀ := X.base) I.ok.mod.kin T.kp (thn (ha.run pos pins s σ H _ I h) fun us s1 ⟨vs, H1, I1, r, v, ev, q⟩ => ⟨I1.kIn, ?_⟩) he hpl
  subst ev
  obtain ⟨u, rfl, ru⟩ := vals1 r
  have room : X.A.depth + 1 < recursionLimit := by have := hr.dp; omega
  refine wpAny_call (madeE T U I1.kIn I1.nolimit room (.inl rfl) fun h' tk e d M => ?_)
  obtain ⟨t1, ho⟩ := M.obj
  obtain ⟨G, g1, g2⟩ := restrict h' fun b => decide (b ≠ e)
  have gk : ∀ b, b ≠ e → G.get? b = h'.get? b := fun b hb => g1 b (decide_eq_true hb)
  have ge : G.get? e = none := g2 e (by simp)
  have ob : ObjOk X.prog X.w (upd H1 d (.xd [(p, v)])) G d (.xd [(p, v)]) := ⟨_, M.ns.at (fun o q => (gk d M.dne).trans q), fun f => relO_one ru f⟩
  have J : Inv X pins σ (upd H1 d (.xd [(p, v)])) ⟨G, s1.gens, s1.drawn, tk, s1.os⟩ := I1.laid (t' := tk) (fun b o q => (gk b (Nat.ne_of_lt (Nat.lt_of_lt_of_le (Heap.lt_size q) M.new))).trans (M.keep b o q)) M.dbig ob
  refine ⟨e, _, _, ⟨G, s1.gens, s1.drawn, tk, s1.os⟩, _, .ref C, some d, rfl, J, fun b o q => ?_, ge, ho, ⟨rfl, rfl⟩, rfl, rfl, ?_, rfl, I1.bare, raises_own T.ex T.ty, q d (I1.hok.fresh M.dbig)⟩
  · by_cases hb : b = e
    · have z : G.get? b = some o := q
      rw [hb, ge] at z
      cases z
    · exact (gk b hb).symm.trans q
  · rw [upd_ne (Ne.symm M.dne)]
    exact I1.hok.fresh M.new
/-- raise X() -/
theorem pmk_0 {np pos : Pos} (T : EcK X.K C) (h0 : PySem.W.findIn X.K (.ref C) "__init__" = some (some (.builtin "Exception.__init__"))) (gC : X.mg x = some (.ref C)) (hg : Gl X x := by rfl) (hdb : (x == ("__debug__" : Str)) = false := by decide) :
    PMk X (.Call (.Name x np) [] [] pos) (fun _ H Q => Q (.ref C) none H) := by
  intro pins s σ H Q I h
  refine wpAny_Call_Name_kw (ld_glob I hg gC ?_ hdb)
  refine PySem.W.callWith_K0 I.kIn T.kp (made0 T h0 I fun h' a t k na ha => ?_)
  have none_a : s.heap.get? a = none := by
    cases e : s.heap.get? a with
    | none => rfl
    | some o => exact absurd (Heap.lt_size e) (Nat.not_lt.mpr na)
  exact ⟨a, _, _, s, H, .ref C, none, rfl, I, k, none_a, ha, ⟨rfl, rfl⟩, rfl, rfl, I.hok.fresh na, rfl, I.bare, raises_own T.ex T.ty, h⟩
/-- a pinned exception that is newer than the def's entry is tracked -/
theorem Inv.track {a : Addr} {oe : Obj} {vs : Array Value} {cls : Value} {d : Option Addr} (I : Inv X ((a, oe) :: pins) σ H s) (hz : Zc cls d oe) (hv : oe.data = .fields vs) (h0 : X.s_0.heap.get? a = none) (hp : ∀ q ∈ X.pn ++ pins, q.1 ≠ a) :
    Inv X pins σ (upd H a (ExV cls d a)) s := by
  obtain ⟨hget, na, nL, nF, ncell⟩ := I.pin (a, oe) (List.mem_append_right _ List.mem_cons_self)
  have tr : ∀ b o, H b = some o → upd H a (ExV cls d a) b = some o := fun b o q => by rw [upd_ne (ne_of_none q na)]; exact q
  refine ⟨I.ok, I.os, I.bare, ⟨I.base.keep, I.base.slot, fun b o e n hx => ?_, I.base.there, fun b xs e => tr b _ (I.base.tups b xs e), fun b o xs e => tr b _ (I.base.frzs b o xs e), fun b ps e => ?_⟩, I.loc, I.cell, ?_, fun y c e => ?_, fun q hq => ?_, fun b o e => ?_, I.len⟩
  · have nb : b ≠ a := fun z => by
      rw [z, h0] at e
      cases e
    rw [upd_ne nb]
    exact I.base.free b o e n hx
  · obtain ⟨m, z⟩ := I.base.tbls b ps e
    exact ⟨m, tr b _ z⟩
  · rw [upd_ne (Ne.symm nL)]
    exact I.free
  · have nc : c ≠ a := fun z => by
      obtain ⟨v, o, ho, hd⟩ := I.cell y c e
      rw [z] at ho
      have hg2 : s.heap.get? a = some oe := hget
      rw [hg2] at ho
      cases ho
      exact ncell v hd
    rw [upd_ne nc]
    exact I.freeC y c e
  · obtain ⟨e1, n1, l1, f1, c1⟩ := I.pin q (by
      rcases List.mem_append.mp hq with z | z
      · exact List.mem_append_left _ z
      · exact List.mem_append_right _ (List.mem_cons_of_mem _ z))
    exact ⟨e1, by rw [upd_ne (hp q hq)]; exact n1, l1, f1, c1⟩
  · by_cases hb : b = a
    · subst hb
      rw [upd_same] at e
      cases e
      exact exV_ok hget hz hv
    · rw [upd_ne hb] at e
      exact (I.hok b o e).stay (fun c v _ z => z) (fun c z => tr c _ z) fun c xs z => tr c _ z
theorem Inv.unsuiteP {a : Addr} {q : Addr × Obj} (I : Inv (X.suite a (q :: (X.pn ++ pins))) [] σ H s) (ok : X.Ok) : Inv X (q :: pins) σ H s :=
  ⟨ok, I.os, I.bare, I.base, I.loc, I.cell, I.free, I.freeC, fun r hr => I.pin r (List.mem_append_left _ (by
    rcases List.mem_append.mp hr with z | z
    · exact List.mem_cons_of_mem _ (List.mem_append_left _ z)
    · rcases List.mem_cons.mp z with z | z
      · rw [z]
        exact List.mem_cons_self
      · exact List.mem_cons_of_mem _ (List.mem_append_right _ z))), I.hok, I.len⟩
end
/-- what 'except x as n' wishes of an exception of the body; behind the suite the exception is tracked -/
def wKeep (K : PySem.W.Frag) (c : Value) (i : Nat) (ts : Addr → Value → Option Addr → TS) (Wout : WX) (D : Ends) : WX := fun cls d σ H =>
  ∃ b, PySem.W.exmOne K cls c = some b ∧ (b = true → ∀ a, H a = none → ts a cls d { nx := fun σ' H' => D.nx (σ'.set i none) (upd H' a (ExV cls d a)), rt := fun v H' => D.rt v (upd H' a (ExV cls d a)), bk := fun σ' H' => D.bk (σ'.set i none) (upd H' a (ExV cls d a)), ct := fun σ' H' => D.ct (σ'.set i none) (upd H' a (ExV cls d a)) } (σ.set i (some (.ref a))) H) ∧ (b = false → Wout cls d σ H)
section
variable {X : Cx} {x n : Str} {c : Value} {i : Nat} {body suite : List Stmt} {b₀ : Stmt} {np pos pos' : Pos} {tb : WX → TS} {ts : Addr → Value → Option Addr → TS} {Wout : WX}
theorem ps_try_keep (hex : X.ex = []) (hs : X.stack = X.env :: X.outer) (hf : X.env.frame = some X.env.locals) (hN : X.N.Nodup) (hi : X.N[i]? = some n) (hln : X.env.kindOf n = some .local) (hc : Names X x c) (tk : Takes X Wout)
    (hb : ∀ (W : WX) (pn : List (Addr × Obj)) (xe : Value → Shared → Prop), Takes (X.tr pn xe) W → PassesOwn (model X.prog X.w) X.A X.env xe → PSs (X.tr pn xe) body (tb W))
    (hsu : ∀ (a : Addr) (oe : Obj) (cls : Value) (d : Option Addr) (pn : List (Addr × Obj)), Zc cls d oe → (∃ vs, oe.data = .fields vs) → PSs (X.suite a ((a, oe) :: pn)) (b₀ :: suite) (ts a cls d)) :
    PS X (.Try body [.ExceptHandler (some (.Name x np)) (some n) (b₀ :: suite) pos'] [] [] pos) (fun D σ H => tb (wKeep X.K c i ts Wout D) D σ H) := by
  refine ⟨fun pins s σ H D I h => ?_⟩
  have ok := I.ok
  have hfr : X.A.frames = some (X.env :: X.outer) := by rw [ok.frames, hs]
  have locN : Loc X.env.scope n := .inl hln
  refine wpAny_Try_except ?_
  refine wpAny_mono ((hb (wKeep X.K c i ts Wout D) (X.pn ++ pins) (fun e s₁ => wpAny (model X.prog X.w) X.A (noteFrame e X.env) (fun _ s₂ => wpAny (model X.prog X.w) X.A (setFlight e none)
    (fun _ s₃ => wpAny (model X.prog X.w) X.A (handleBy e X.env [.ExceptHandler (some (.Name x np)) (some n) (b₀ :: suite) pos']) (SP X pins D) X.xe s₃) X.xe s₂) X.xe s₁) (fun u s' xx => ?_) PassesOwn.looking).run [] s σ H D (I.toTry _) h)
    (fun f s1 hsp => ?_) (fun e s1 he => he)
  · obtain ⟨a, B, sI, pins', σ', H', cls, d, rfl, J', nb, up, sky, na, os, ag, b, hb1, hyes, hno⟩ := xx
    have J : Inv X pins σ' H' sI := J'.ofTry ok
    have sky2 : Sky B (X.env :: X.outer) a (Zc cls d) X.env.locals s'.heap := by rw [← hs]; exact sky
    have notB : B.get? a = none := by
      rcases sky with ⟨_, z, _⟩ | z | z
      · exact z
      · exact z.2.1
      · exact z.2.1
    show wpAny (model X.prog X.w) X.A (noteFrame (.ref a) X.env) _ _ _
    refine Sky.land Zc.steady hfr hf sky2 fun h3 fl3 up3 => ?_
    have J3 : Inv X pins σ' H' { s' with heap := h3 } := J.landed nb fl3.1 (up.trans up3) os ag
    obtain ⟨oe3, vs3, he3, hz3, hd3⟩ := fl3.there
    have nfr : a ∉ frs (X.env :: X.outer) := fun hm => by
      obtain ⟨_, o', e', hnf⟩ := fl3.2.2.1.mem hm
      rw [he3] at e'
      cases e'
      exact hnf _ hd3
    have notI : sI.heap.get? a = none := by
      cases e : sI.heap.get? a with
      | none => rfl
      | some o =>
        have z := nb a o e (by rw [hs]; exact nfr)
        rw [notB] at z
        cases z
    have not0 : X.s_0.heap.get? a = none := by
      cases e : X.s_0.heap.get? a with
      | none => rfl
      | some o =>
        obtain ⟨o', z⟩ := J.base.there a o e (by rw [hex]; exact fun z => nomatch z)
        rw [notI] at z
        cases z
    have nPin : ∀ q ∈ X.pn ++ pins, q.1 ≠ a := fun q hq z => by
      have y := (J'.pin q (List.mem_append_left _ hq)).1
      rw [z, notI] at y
      cases y
    have nL : a ≠ X.env.locals := fun z => nfr (List.mem_filterMap.mpr ⟨X.env, List.mem_cons_self, by rw [hf, z]⟩)
    have nF : a ∉ X.fs := fun hm => by
      obtain ⟨e, he, q⟩ := List.mem_filterMap.mp hm
      exact nfr (List.mem_filterMap.mpr ⟨e, List.mem_cons_of_mem _ he, q⟩)
    have S3 := J3.suite he3 hd3 na nL nF
    refine wpAny_handleBy_cons (codeAny_handlers_test ?_) (by intro q; cases q)
    have LT : PySem.W.Looks (model X.prog X.w) h3 (typeOf (.ref a)) cls := fun A Q E s k q => wpAny_typeOf_ref (k _ _ he3) (by rw [hz3.1]; exact q)
    have LM := PySem.W.exm_one (M := model X.prog X.w) (J3.kIn) LT hb1
    have test : ∀ {Q : Value → Shared → Prop} {E : Value → Shared → Prop}, Q c { s' with heap := h3 } → wpAny (model X.prog X.w) (X.A.mark (some (.ref a))) (eval (.Name x np) X.env) Q E { s' with heap := h3 } := fun {Q E} q => by
      obtain ⟨hg, hdbg, hm | ⟨hm, hv, hnn⟩⟩ := hc
      · exact ld_glob (X := X.suite a ((a, oe3) :: (X.pn ++ pins))) S3 hg hm q hdbg
      · exact ld_blt (X := X.suite a ((a, oe3) :: (X.pn ++ pins))) S3 hg hm hv q hnn hdbg
    refine test (LM.here ?_)
    cases b with
    | true =>
      refine codeAny_handlers_suite_as ?_
      refine HandSPX.lands_againZ fl3 fun h4 fl4 up4 => ?_
      have J4 : Inv X pins σ' H' { s' with heap := h4 } := J.landed nb fl4.1 ((up.trans up3).trans up4) os ag
      obtain ⟨oe4, vs4, he4, hz4, hd4⟩ := fl4.there
      have S4 := J4.suite he4 hd4 na nL nF
      refine store_ok (X := X.suite a ((a, oe4) :: (X.pn ++ pins))) (v := .ref a) S4 hN hi locN rfl (fun s5 S5 => ?_) (.inr hln)
      refine wpAny_mono ((hsu a oe4 cls d (X.pn ++ pins) hz4 ⟨_, hd4⟩).run [] s5 _ H' _ S5 (hyes rfl a na)) (fun f s6 hsp => ?_) (fun _ _ z => False.elim z)
      have fin : ∀ {σ6 : L2.St} {H6 : Hp} {Q : Shared → Prop}, Inv (X.suite a ((a, oe4) :: (X.pn ++ pins))) [] σ6 H6 s6 → (∀ s7, Inv X pins (σ6.set i none) (upd H6 a (ExV cls d a)) s7 → Q s7) →
          wpAny (model X.prog X.w) X.A (do bindName X.env n .none; unbindBehindTheSuite X.env n pos') (fun _ s7 => Q s7) X.xe s6 :=
        fun {σ6 H6 Q} S6 hq => gone_ok (Inv.unsuiteP S6 ok) hN hi hln fun s7 J7 => hq s7 (Inv.track J7 hz4 hd4 not0 nPin)
      cases f with
      | next =>
        obtain ⟨σ6, H6, S6, q6⟩ := hsp
        exact fin S6 fun s7 J7 => ⟨_, _, J7, q6⟩
      | brk =>
        obtain ⟨σ6, H6, S6, q6⟩ := hsp
        exact fin S6 fun s7 J7 => ⟨_, _, J7, q6⟩
      | cont =>
        obtain ⟨σ6, H6, S6, q6⟩ := hsp
        exact fin S6 fun s7 J7 => ⟨_, _, J7, q6⟩
      | ret u =>
        obtain ⟨v6, σ6, H6, S6, r6, q6⟩ := hsp
        exact fin S6 fun s7 J7 => ⟨_, _, _, J7, r6, q6⟩
    | false =>
      show wpAny _ X.A (handleBy (.ref a) X.env []) _ _ _
      refine wpAny_handleBy_nil ?_
      obtain ⟨k1, k2, k3, oe, vs, T, oT, ts', he, hz, hd, h1, hr⟩ := id fl3
      unfold PySem.passOn
      refine wpAny_bind (wpAny_field he hd h1 ?_)
      rw [if_neg (show ¬ ((Value.ref T == Value.none) = true) from by simp)]
      have fin : wpAny (model X.prog X.w) X.A (setFlight (.ref a) X.env.frame) (fun _ s4 => wpAny (model X.prog X.w) X.A (throw (.ref a) : Sem Flow) (SP X pins D) X.xe s4) X.xe { s' with heap := h3 } := by
        rw [hf]
        refine HandSPX.setFlight_upZ fl3 fun h4 hh4 up4 => wpAny_throw (tk _ _ ?_)
        exact ⟨a, B, sI, pins, σ', H', cls, d, rfl, J, nb, (up.trans up3).trans up4, .inr (.inr (by rw [hs]; exact hh4)), na, os, ag, hno rfl⟩
      first
        | exact wpAny_bind (wpAny_pure (wpAny_bind fin))
        | exact wpAny_bind fin
  · cases f with
    | next =>
      obtain ⟨σ', H', J', q⟩ := hsp
      exact wpAny_execs_nil ⟨σ', H', J'.ofTry ok, q⟩
    | brk =>
      obtain ⟨σ', H', J', q⟩ := hsp
      exact ⟨σ', H', J'.ofTry ok, q⟩
    | cont =>
      obtain ⟨σ', H', J', q⟩ := hsp
      exact ⟨σ', H', J'.ofTry ok, q⟩
    | ret u =>
      obtain ⟨v, σ', H', J', r, q⟩ := hsp
      exact ⟨v, σ', H', J'.ofTry ok, r, q⟩
end
end Vk
set_option Elab.async false
set_option linter.all false
set_option maxRecDepth 100000
set_option maxHeartbeats 4000000
namespace Vk
open PySem PySem.Spec PyProof.Rows L2
abbrev St := L2.St
section
variable {X : Cx}
/-- a list comprehension, its list's place no table of the machine's -/
def tLcN (wi : TI) (g : TG) (tt : TT) (te : TE) (vs : List Nat) : TE := fun σ H Q => wi σ H fun J H1 => ∀ D, H1 D = none → D ≠ sysModules → ∃ W : Nat → Nat → Hp → Prop,
  (∃ m, W 0 m (upd H1 D (.lst []))) ∧ ∀ i m H, W i m H → (J.stop i H ∧ Q (.ref D) H) ∨ (J.go i H ∧ ∃ Nx : Hp → Prop, (∀ H', Nx H' → ∃ m', m' < m ∧ W (i + 1) m' H') ∧
    ∀ x H', J.yld i H x H' → g x (wipe σ vs) H' fun σ2 H2 => wipe σ2 vs = wipe σ vs ∧ tt σ2 H2 fun b H3 => if b = true then te σ2 H3 fun y H4 => ∃ acc, H4 D = some (.lst acc) ∧ acc.length < sizeLine ∧ Nx (upd H4 D (.lst (acc ++ [y]))) else Nx H3)
theorem lcN {pins : List (Addr × Obj)} {s : Shared} {σ : St} {H : Hp} {Q : VK} {elt tg iter : Expr} {ifs : List Expr} {scope : Scope} {own : List (Str × Nat)} {pos pos' : Pos} {wi : TI} {g : TG} {tt : TT} {te : TE} {use : Option (Value → Sem Unit)} {Qf : Value → Shared → Prop}
    (hc : X.calm = true) (hN : X.N.Nodup) (I : Inv X pins σ H s) (hi : PI X tg iter wi) (ok : BlkOk X.N X.env.scope scope own)
    (hg : ∀ (s : Shared) (H : Hp) (C : Addr) (cl : List (Str × Addr)) (fp : List Addr), PG (X.blk s H scope (compEnvC scope cl C X.env) fp) tg g) (ht : ∀ (s : Shared) (H : Hp) (C : Addr) (cl : List (Str × Addr)) (fp : List Addr), PTs (X.blk s H scope (compEnvC scope cl C X.env) fp) ifs tt)
    (he : ∀ (s : Shared) (H : Hp) (C : Addr) (cl : List (Str × Addr)) (fp : List Addr), PE (X.blk s H scope (compEnvC scope cl C X.env) fp) elt te) (hs : ∀ x, foldedSetIterable iter X.env x = pure x)
    (h : tLcN wi g tt te (own.map (·.2)) σ H Q)
    (post : ∀ D C s' m H', Inv X pins σ H' s' → Q (.ref D) H' → s'.heap.Ns C m → FpOk X pins H' C → compPost (model X.prog X.w) X.A X.xe use Qf (.ref D) C (.ok .next) s') :
    wpAny (model X.prog X.w) X.A (comprehension (.ListComp elt [⟨tg, iter, ifs, 0⟩] scope pos) scope X.env pos' (newList []) false (eval iter X.env) use) Qf X.xe s := by
  have allFree : ∀ y ∈ scope.names, y.2 = .free → ∃ c, X.env.cells.lookup y.1 = some c := fun y hy e => by
    rcases ok.free y hy e with k | k
    · exact I.ok.has _ (.inl k)
    · exact I.ok.has _ (.inr k)
  refine wpAny_comprehension_free (use := use) rfl hs (closure_ok allFree) ok.kind (fun y hy e => by rw [ok.uniq y hy, e])
    (thn (hi.run pins s σ H _ I h) fun xv z1 hx => thn hx fun itv z2 h2 => ?_)
  obtain ⟨it, fp, tn, J, G2, e, U2, T, at2, okF2, q⟩ := h2
  subst e
  refine wpAny_newObj_type (newEnv_comp ?_) (by show 0 ≤ sizeLine; decide)
  generalize eqD : z2.heap.objs.size = D
  have newD : G2 D = none := U2.hok.fresh (Nat.le_of_eq eqD)
  obtain ⟨W, ⟨start0, first⟩, turn⟩ := q D newD (by rw [← eqD]; exact Nat.ne_of_gt U2.big)
  -- the new list
  generalize eqz3 : ({ z2 with heap := z2.heap.push { cls := .type "list", data := .seq ([] : List Value).toArray } } : Shared) = z3
  have U3 : Inv X pins σ (upd G2 D (.lst [])) z3 := by
    rw [← eqz3]
    refine U2.laid (t' := z2.toks) (fun b o e => Heap.get?_push_of_some _ e) (Nat.le_of_eq eqD) ⟨Nat.zero_le _, [], 0, .nil, ?_⟩
    rw [← eqD]
    exact Heap.get?_push_size _ rfl
  have heap3 : z3.heap = z2.heap.push { cls := .type "list", data := .seq ([] : List Value).toArray } := by rw [← eqz3]
  have below : ∀ b ∈ fp, b < z2.heap.objs.size := fun b hb => by
    obtain ⟨o, e, _⟩ := T.obj _ _ at2 b hb
    exact Heap.lt_size e
  have okF : ∀ b ∈ fp, FpOk X pins (upd G2 D (.lst [])) b ∧ b < z3.heap.objs.size := fun b hb => by
    have hlt := below b hb
    refine ⟨⟨?_, (okF2 b hb).2⟩, by rw [heap3, Heap.size_push]; exact Nat.lt_succ_of_lt hlt⟩
    rw [upd_ne (by rw [← eqD]; exact Nat.ne_of_lt hlt)]
    exact (okF2 b hb).1
  have at3 : tn 0 z3.heap := T.keep _ _ _ at2 fun b _ o e => by rw [heap3]; exact Heap.get?_push_of_some _ e
  have U4 := block_start U3 ok hN okF
  have gg := hg z3 (upd G2 D (.lst [])) z3.heap.objs.size (cellsFrom (z3.heap.objs.size + 1) scope.names (cloFrom X.env.cells scope.names [])) fp
  have gt := ht z3 (upd G2 D (.lst [])) z3.heap.objs.size (cellsFrom (z3.heap.objs.size + 1) scope.names (cloFrom X.env.cells scope.names [])) fp
  have ge := he z3 (upd G2 D (.lst [])) z3.heap.objs.size (cellsFrom (z3.heap.objs.size + 1) scope.names (cloFrom X.env.cells scope.names [])) fp
  show codeAny _ _ (.compStart (.ListComp elt [⟨tg, iter, ifs, 0⟩] scope pos) 0 (.ref it) (.ref D) (compEnvC scope (cellsFrom (z3.heap.objs.size + 1) scope.names (cloFrom X.env.cells scope.names [])) z3.heap.objs.size X.env)) (compPost (model X.prog X.w) X.A X.xe use Qf (.ref D) z3.heap.objs.size) { z3 with heap := pushCells (z3.heap.push { cls := .type "dict", data := .dict #[] }) scope.names }
  have noF : ∀ b ∈ fp, (upd G2 D (.lst [])) b = none := fun b hb => (okF b hb).1.1
  generalize eqC : compEnvC scope (cellsFrom (z3.heap.objs.size + 1) scope.names (cloFrom X.env.cells scope.names [])) z3.heap.objs.size X.env = cenv at U4 gg gt ge ⊢
  have locC : cenv.locals = z3.heap.objs.size := by subst eqC; rfl
  generalize eqG3 : upd G2 D (.lst []) = G3 at U3 U4 gg gt ge first noF okF
  generalize eqz4 : ({ z3 with heap := pushCells (z3.heap.push { cls := .type "dict", data := .dict #[] }) scope.names } : Shared) = z4 at U4 ⊢
  have at4 : tn 0 z4.heap := T.keep _ _ _ at3 fun b _ o e => by rw [← eqz4]; exact pushCells_keeps _ _ _ _ (Heap.get?_push_of_some _ e)
  have still : ∀ {σ' : St} {H' : Hp} {s' : Shared}, Inv (X.blk z3 G3 scope cenv fp) [] σ' H' s' → (∀ b ∈ fp, H' b = none) → ∀ b ∈ fp, FpOk (X.blk z3 G3 scope cenv fp) [] H' b := fun {σ' H' s'} I' nsC b hb =>
    ⟨nsC b hb, (I'.ok.exf b hb).1, I'.ok.exfs b hb, .inl hb, fun x c e => (I'.ok.exf b hb).2 x c e, fun p hp => absurd (show p ∈ ([] : List (Addr × Obj)) ++ [] from hp) (by simp)⟩
  have loop : codeAny (model X.prog X.w) X.A (.compLoop (.ListComp elt [⟨tg, iter, ifs, 0⟩] scope pos) 0 (.ref it) (.ref D) cenv) (compPost (model X.prog X.w) X.A X.xe use Qf (.ref D) z3.heap.objs.size) z4 := by
    refine compLoop_any (fun n s' => ∃ i H', Inv (X.blk z3 G3 scope cenv fp) [] (wipe σ (own.map (·.2))) H' s' ∧ tn i s'.heap ∧ (∀ b ∈ fp, H' b = none) ∧ W i n H') ?_ start0 ⟨0, G3, U4, at4, noF, first⟩
    rintro n z5 ⟨i, G5, U5, at5, no5, at_w⟩
    rcases turn i n G5 at_w with ⟨stop, fin0⟩ | ⟨go, Nx, toNx, goStep⟩
    · have stopD := T.done (X.blk z3 G3 scope cenv fp) rfl rfl rfl hc i [] z5 _ G5 (fun _ _ => False) U5 (still U5 no5) at5 stop
      refine thnF stopD fun r z6 ⟨isR, U6⟩ => ?_
      subst isR
      -- back in the def's context
      have U7 : Inv X pins σ G5 z6 := U3.call' (ch := fp) U6.os U6.base U6.hok U6.bare fun b hb => ⟨(okF b hb).1.2.2.2.1, (okF b hb).1.2.1, (okF b hb).1.2.2.2.2.1, (okF b hb).1.2.2.2.2.2⟩
      have freeC0 : G5 z3.heap.objs.size = none := by
        have z : G5 cenv.locals = none := U6.free
        rw [locC] at z
        exact z
      obtain ⟨m, nsC, _⟩ := U6.loc
      have nsC : z6.heap.Ns cenv.locals m := nsC
      rw [locC] at nsC
      exact post D z3.heap.objs.size z6 m G5 U7 fin0 nsC (U3.fpOk (Nat.le_refl _) freeC0)
    · have itemD := T.item (X.blk z3 G3 scope cenv fp) rfl rfl rfl hc i [] z5 _ G5 (fun _ _ => False) U5 (still U5 no5) at5 go
      refine thnF itemD fun r z6 ⟨u, isR, next6⟩ => ?_
      subst isR
      refine thnF next6 fun _ z7 ⟨x, G7, U7, rel7, yield7, at7, no7⟩ => ?_
      have U7b := U7.pinned (still U7 no7) (T.obj _ _ at7)
      refine thnF (gg.run _ z7 _ G7 x u _ U7b rel7 (goStep x G7 yield7)) fun _ z8 ⟨σe, G8, U8, wiped, r8⟩ => ?_
      refine thnF (gt.run _ z8 σe G8 _ U8 r8) fun b z9 ⟨G9, U9, r9⟩ => ?_
      -- the turn's end
      have close : ∀ {s' : Shared} {H' : Hp}, Inv (X.blk z3 G3 scope cenv fp) ([] ++ pinsAt fp z7.heap) σe H' s' → Nx H' → ∃ m, m < n ∧ ∃ i H', Inv (X.blk z3 G3 scope cenv fp) [] (wipe σ (own.map (·.2))) H' s' ∧ tn i s'.heap ∧ (∀ b ∈ fp, H' b = none) ∧ W i m H' := fun {s' H'} I' isNx => by
        obtain ⟨m', lt0, w'⟩ := toNx H' isNx
        have pinned0 : ∀ b ∈ fp, ∀ o, z7.heap.get? b = some o → s'.heap.get? b = some o ∧ H' b = none := fun b hb o e =>
          let z := I'.pin (b, o) (List.mem_append_right _ (List.mem_append_right _ (mem_pinsAt hb e)))
          ⟨z.1, z.2.1⟩
        have lenE : (wipe σ (own.map (·.2))).length = σe.length := by rw [← wiped, wipe_length]
        refine ⟨m', lt0, i + 1, H', (I'.unpinned (pins := [])).weak lenE (fun j v e => ?_), T.keep _ _ _ at7 fun b hb o e => (pinned0 b hb o e).1, fun b hb => ?_, w'⟩
        · rw [← wiped] at e
          exact (wipe_some e).1
        · obtain ⟨o, e, _⟩ := T.obj _ _ at7 b hb
          exact (pinned0 b hb o e).2
      cases b with
      | false =>
        simp only [Bool.false_eq_true, if_false] at r9 ⊢
        exact close U9 r9
      | true =>
        simp only [if_true] at r9 ⊢
        refine thnF (ge.run _ z9 σe G9 _ U9 r9) fun z z10 ⟨yv, G10, U10, rel10, acc, atD, small, isNx⟩ => ?_
        exact app_ok (X := X.blk z3 G3 scope cenv fp) U10 atD small rel10 fun z11 U11 => close U11 isNx
  exact codeAny_compStart_list loop (T.self X.A 0 _ _ _ at4 loop)
theorem pe_lcN {elt tg iter : Expr} {ifs : List Expr} {scope : Scope} {own : List (Str × Nat)} {pos : Pos} {wi : TI} {g : TG} {tt : TT} {te : TE} (hc : X.calm = true) (hN : X.N.Nodup) (hi : PI X tg iter wi) (ok : BlkOk X.N X.env.scope scope own)
    (hg : ∀ (s : Shared) (H : Hp) (C : Addr) (cl : List (Str × Addr)) (fp : List Addr), PG (X.blk s H scope (compEnvC scope cl C X.env) fp) tg g)
    (ht : ∀ (s : Shared) (H : Hp) (C : Addr) (cl : List (Str × Addr)) (fp : List Addr), PTs (X.blk s H scope (compEnvC scope cl C X.env) fp) ifs tt)
    (he : ∀ (s : Shared) (H : Hp) (C : Addr) (cl : List (Str × Addr)) (fp : List Addr), PE (X.blk s H scope (compEnvC scope cl C X.env) fp) elt te)
    (hs : ∀ x, foldedSetIterable iter X.env x = pure x := by intro _; rfl) : PE X (.ListComp elt [⟨tg, iter, ifs, 0⟩] scope pos) (tLcN wi g tt te (own.map (·.2))) := by
  refine ⟨fun pins s σ H Q I h => ?_⟩
  rw [eval_ListComp]
  refine lcN hc hN I hi ok hg ht he hs h fun D C s' m H' I' q hn f => ⟨m, hn, fun h2 sb => ?_⟩
  obtain ⟨f0, f1, f2, f3, f4, f5⟩ := f
  exact ⟨.ref D, H', I'.turned (t' := s'.toks) (fun b o hb e => (sb.2 b hb).trans e) f0 f1 f3 f4 f5, rfl, q⟩
end
end Vk
set_option Elab.async false
set_option linter.all false
set_option maxRecDepth 100000
set_option maxHeartbeats 4000000
/-! Own ==, != and str() of an instance, by the promise of the class's own def. -/
namespace PySem.W
open PySem PySem.Spec PySem.Calls PyProof.Rows
section
variable {prog : Program} {w : World} {A : Around} {E : Value → Shared → Prop} {s : Shared} {K : Frag} {x C f : Addr} {ox : Obj} {od : Option Obj} {name : Str} {b tb : Value}
theorem bound_bi {M : Model} {args : List Value} {id : String} {Q : Option Value → Shared → Prop} (X : K.In s.heap) (I : InstAt s.heap x ox C od) (hs : findIn K (.ref C) name = some (some (.builtin id)))
    (hb : ∀ self, bindSpecial (.builtin id) self = pure (.builtin id, [self])) (h : wpAny M A (call (.builtin id) (.ref x :: args)) (fun v => Q (some v)) E s) : wpAny M A (callSpecialIfBound? (.ref x) name args) Q E s := by
  simp only [callSpecialIfBound?, bindSpecialIfBound?]
  refine wpAny_holding (wpAny_bind (wpAny_bind (wpAny_bind (I.type.here ((looks_findIn X hs).here ?_)))))
  refine wpAny_bind (wpAny_askSetting (wpAny_ite ?_))
  have fin : wpAny M A (call (.builtin id) ([.ref x] ++ args) >>= fun v => pure (some v)) Q E s := wpAny_bind (wpAny_mono h (fun v s' h' => wpAny_pure h') fun _ _ h' => h')
  split
  · exact wpAny_bind ((Looks.of_pure (hb _)).here (wpAny_pure (by exact fin)))
  · exact wpAny_tryCatch (wpAny_bind ((Looks.of_pure (hb _)).here (wpAny_pure (by exact fin))))
/-- what an own == hands back: a bool, told to Q -/
def TF (Q : Bool → Shared → Prop) (v : Value) (s' : Shared) : Prop := ∃ r, v = .bool r ∧ Q r s'
open Builtin in
theorem own_ne_body {Q : Fin → Shared → Prop} (hu : A.units < cLine) (X : K.In s.heap) (I : InstAt s.heap x ox C od) (hs : findIn K (.ref C) "__eq__" = some (some (.ref f))) (hf : isFn K (.ref f) = true)
    (h : wpAny (model prog w) A (call (.ref f) [.ref x, b]) (TF fun r s' => Q (.done (.ret (.bool (!r)))) s') E s) : wpAny (model prog w) A (Builtin.«object.__ne__» ⟨[.ref x, b], []⟩) Q E s := by
  unfold Builtin.«object.__ne__»
  refine wpAny_bind (m := slotArgs "__ne__" 1 _) (wpAny_pure ?_)
  refine wpAny_bind (m := cRoomFor _ _) (wpAny_cRoomFor hu ?_)
  refine wpAny_bind (m := callSpecialIfBound? (.ref x) (Str.ofString "__eq__") _) (ifBound_K X I hs hf (wpAny_mono h (fun r s' hq => ?_) fun _ _ y => y))
  obtain ⟨r', rfl, hq⟩ := hq
  refine wpAny_bind (wpAny_truthy_bool ?_)
  exact wpAny_pure hq
theorem neq_K {Q : Value → Shared → Prop} (hu : A.units < cLine) (hu1 : A.in1.units < cLine) (X : K.In s.heap) (I : InstAt s.heap x ox C od) (hb : Looks (model prog w) s.heap (typeOf b) tb) (hn : notFirst K C tb = true)
    (hm : mroIn K C (.type "object") = some true) (hne : findIn K (.ref C) "__ne__" = some (some (.builtin "object.__ne__"))) (hs : findIn K (.ref C) "__eq__" = some (some (.ref f))) (hf : isFn K (.ref f) = true)
    (hbind : ∀ self, bindSpecial (.builtin "object.__ne__") self = pure (.builtin "object.__ne__", [self])) (hpl : plainId "object.__ne__" = true)
    (h : wpAny (model prog w) A.in1 (call (.ref f) [.ref x, b]) (TF fun r s' => Q (.bool (!r)) s') E s) : wpAny (model prog w) A (richCompare .NotEq (.ref x) b) Q E s := by
  have one : wpAny (model prog w) A (tryCompare (.ref x) (cmpInfo .NotEq).2.1 b) (fun r s' => ∃ v, r = some v ∧ Q v s') E s := by
    unfold tryCompare
    refine wpAny_bind (bound_bi X I hne hbind (wpAny_call (codeAny_call_builtin hpl F.cmpEntry_ne (check_slot (i := "object.__ne__") (owner := "object") (n := "__ne__") F.cmpKind_ne F.cmpSplit_ne (I.type.andThen (looks_mroIn X hm)) (F.cmpArgs_ne _ _)
      (own_ne_body hu1 X I hs hf (wpAny_mono h (fun v s' hv => ?_) fun _ _ e => e))))))
    obtain ⟨r, rfl, hq⟩ := hv
    exact ⟨r, rfl, wpAny_pure ⟨_, rfl, hq⟩⟩
  unfold richCompare
  simp only [oneThing_ref]
  refine wpAny_holding (wpAny_bind (wpAny_cRoomFor hu ?_))
  refine wpAny_bind (I.type.here (wpAny_bind (hb.here ?_)))
  split
  · rename_i q
    have e : subIn K tb (.ref C) = some false := by
      rcases Bool.or_eq_true_iff.mp hn with e | e
      · rw [beq_iff_eq.mp e] at q; simp at q
      · exact beq_iff_eq.mp e
    refine wpAny_bind ((looks_subIn X e).here ?_)
    simp only [Bool.false_eq_true, if_false]
    refine wpAny_bind (wpAny_mono one (fun r s' z => ?_) fun _ _ e => e)
    obtain ⟨v, rfl, hq⟩ := z
    exact wpAny_pure hq
  · refine wpAny_bind (wpAny_pure ?_)
    simp only [Bool.false_eq_true, if_false]
    refine wpAny_bind (wpAny_mono one (fun r s' z => ?_) fun _ _ e => e)
    obtain ⟨v, rfl, hq⟩ := z
    exact wpAny_pure hq
end
end PySem.W

namespace Vk
open PySem PySem.Spec PyProof.Rows L2
/-- the type of a value, as richCompare looks it up -/
def TyOf (X : Cx) (H : Hp) (y : V) (tb : Value) : Prop := ∀ pins σ s u, Inv X pins σ H s → RelV y u → PySem.W.Looks (model X.prog X.w) s.heap (typeOf u) tb
section
variable {X : Cx} {H : Hp} {CX : CXT} {k : Nat} {f C : Addr} {fd : FuncData} {ps : List Str} {sp : Sp} {E : XK}
theorem ty_ins {b dx : Addr} {fs : List (Str × V)} (h : H b = some (.ins C dx fs)) : TyOf X H (.ref b) (.ref C) := fun pins σ s u I r => by
  cases r
  obtain ⟨m, J, _⟩ := ins_get I.hok h
  obtain ⟨od, J, _⟩ := J.look
  exact J.type
theorem ty_str {z : Str} : TyOf X H (.str z) (.type "str") := fun pins σ s u I r => by
  obtain ⟨t, rfl⟩ := r
  exact .of_pure rfl
theorem ty_int {i : Int} : TyOf X H (.int i) (.type "int") := fun pins σ s u I r => by
  obtain ⟨t, rfl⟩ := r
  exact .of_pure rfl
theorem ty_lst {a : Addr} {xs : List V} (h : SqL X.K H a xs) : TyOf X H (.ref a) (.type "list") := fun pins σ s u I r => by
  cases r
  obtain ⟨its, rv, ⟨o, n, ho, hc, _, hd⟩, _⟩ := I.list h
  rw [← hc]
  exact (PySem.W.Looks.ld (part := none) ho).andThen .now
theorem ty_tup {a : Addr} {xs : List V} (h : SqT X.K H a xs) : TyOf X H (.ref a) (.type "tuple") := fun pins σ s u I r => by
  cases r
  obtain ⟨its, rv, ⟨o, ho, hc, n, hd⟩, _⟩ := I.tuple h
  rw [← hc]
  exact (PySem.W.Looks.ld (part := none) ho).andThen .now
/-- the run of an own def below the running one -/
theorem own_run (F : FnOk X.prog X.w X.K X.mg X.base CX k f fd ps sp) (hb : Binds X.K fd ps []) (hx : Passes CX X E) {A : Around} (hr : Room k A) (hfr : A.frames = X.A.frames) {pins : List (Addr × Obj)} {s : Shared} {σ : L2.St} {vs : List V} {us : List Value} {Q : VK} {R : Value → Shared → Prop}
    (I : Inv X pins σ H s) (r : Vals vs us) (h : sp vs H Q E) (hR : ∀ v s', EP X pins σ Q v s' → R v s') : wpAny (model X.prog X.w) A (call (.ref f) us) R X.xe s := by
  have e0 : Env0 X.prog X.w X.K X.mg X.base A X.stack s H := by
    have e := I.env0
    exact ⟨by rw [hfr]; exact e.frames, e.mod, e.bs, e.bsz, e.funs, e.frf, e.hok, e.bare⟩
  have hl := F.len _ _ _ _ h
  have bt := hb s us I.kIn (by rw [List.append_nil]; exact r.length.symm.trans hl)
  rw [List.append_nil] at bt
  refine wpAny_call (codeAny_mono (F.run A X.stack s H ⟨us, []⟩ us vs Q E hr e0 bt r h) fun z s' hq => ?_)
  cases z with
  | error e => exact hx pins σ H s e s' I hq
  | ok fl =>
    cases fl with
    | ret w => exact hR w s' (I.after hq)
    | next => exact hq.elim
    | brk => exact hq.elim
    | cont => exact hq.elim
/-- str(o) by the own __str__ -/
def rStrO (C : Addr) (sp : Sp) (E : XK) : List V → Hp → VK → Prop := fun vs H Q => ∃ a dx fs, vs = [.ref a] ∧ H a = some (.ins C dx fs) ∧ sp [.ref a] H (fun v H' => ∃ z, v = .str z ∧ Q (.str z) H') E
theorem cr_strO (F : FnOk X.prog X.w X.K X.mg X.base CX k f fd ps sp) (hr : Room (k + 2) X.A) (hs : PySem.W.findIn X.K (.ref C) "__str__" = some (some (.ref f))) (hf : PySem.W.isFn X.K (.ref f) = true) (hb : Binds X.K fd ps []) (hx : Passes CX X E) :
    CallR X (.type "str") (rStrO C sp E) := by
  intro pins s σ H xs us Q I rv h
  obtain ⟨a, dx, fs, rfl, ha, hsp⟩ := h
  cases rv with
  | cons h1 h2 =>
    cases h2
    cases h1
    obtain ⟨m, J, _⟩ := ins_get I.hok ha
    obtain ⟨od, J, _⟩ := J.look
    refine PySem.W.kso_call hr.in1.in1.units0 I.kIn J hs hf (own_run F hb hx hr.in1.in1 rfl I (Paired.cons (F := RelV) (a := V.ref a) rfl .nil) hsp fun v s' z => ?_)
    obtain ⟨v', H', I', r', z', e, q⟩ := z
    subst e
    obtain ⟨t, rfl⟩ := r'
    exact ⟨V.str z', H', I', ⟨t, rfl⟩, q⟩
/-- x == y, x != y by the own __eq__ -/
def rCmpO (X : Cx) (C : Addr) (sp : Sp) (E : XK) (g : Bool → Bool) : R2 := fun x y H Q => ∃ a dx fs tb, x = .ref a ∧ H a = some (.ins C dx fs) ∧ TyOf X H y tb ∧ PySem.W.notFirst X.K C tb = true ∧ sp [.ref a, y] H (fun v H' => ∃ r, v = .bl r ∧ Q (.bl (g r)) H') E
theorem op_eqO (F : FnOk X.prog X.w X.K X.mg X.base CX k f fd ps sp) (hr : Room k X.A) (hs : PySem.W.findIn X.K (.ref C) "__eq__" = some (some (.ref f))) (hf : PySem.W.isFn X.K (.ref f) = true) (hb : Binds X.K fd ps []) (hx : Passes CX X E) :
    OpR X (compareOp .Eq) (rCmpO X C sp E id) := by
  intro pins s σ H x y v u Q I rx ry h
  obtain ⟨a, dx, fs, tb, rfl, ha, ht, hn, hsp⟩ := h
  cases rx
  obtain ⟨m, J, _⟩ := ins_get I.hok ha
  obtain ⟨od, J, _⟩ := J.look
  obtain ⟨m', hF⟩ := I.fr
  refine PySem.W.cmp_K (op := .Eq) hr.units0 hF I.ok.mod.kin J (ht pins σ s u I ry) hn hs hf (own_run F hb hx hr rfl I (Paired.cons (F := RelV) (a := V.ref a) rfl (.cons ry .nil)) hsp fun v s' z => ?_)
  obtain ⟨v', H', I', r', z', e, q⟩ := z
  subst e
  cases r'
  exact ⟨V.bl z', H', I', rfl, q⟩
theorem op_neO (F : FnOk X.prog X.w X.K X.mg X.base CX k f fd ps sp) (hr : Room (k + 1) X.A) (hm : PySem.W.mroIn X.K C (.type "object") = some true) (hne : PySem.W.findIn X.K (.ref C) "__ne__" = some (some (.builtin "object.__ne__")))
    (hs : PySem.W.findIn X.K (.ref C) "__eq__" = some (some (.ref f))) (hf : PySem.W.isFn X.K (.ref f) = true) (hb : Binds X.K fd ps []) (hx : Passes CX X E) : OpR X (compareOp .NotEq) (rCmpO X C sp E not) := by
  intro pins s σ H x y v u Q I rx ry h
  obtain ⟨a, dx, fs, tb, rfl, ha, ht, hn, hsp⟩ := h
  cases rx
  obtain ⟨m, J, _⟩ := ins_get I.hok ha
  obtain ⟨od, J, _⟩ := J.look
  refine PySem.W.neq_K hr.units0 hr.in1.units0 I.kIn J (ht pins σ s u I ry) hn hm hne hs hf PySem.F.slot_zip_ne.bind PySem.F.slot_zip_ne.plain (own_run F hb hx hr.in1 rfl I (Paired.cons (F := RelV) (a := V.ref a) rfl (.cons ry .nil)) hsp fun v s' z => ?_)
  obtain ⟨v', H', I', r', z', e, q⟩ := z
  subst e
  cases r'
  exact ⟨_, rfl, V.bl (!z'), H', I', rfl, q⟩
/-- y in o by the own __contains__ -/
def rInO (C : Addr) (sp : Sp) (E : XK) (g : Bool → Bool) : R2 := fun x y H Q => ∃ a dx fs, y = .ref a ∧ H a = some (.ins C dx fs) ∧ sp [.ref a, x] H (fun v H' => ∃ r, v = .bl r ∧ Q (.bl (g r)) H') E
theorem op_inO (F : FnOk X.prog X.w X.K X.mg X.base CX k f fd ps sp) (hr : Room k X.A) (hs : PySem.W.findIn X.K (.ref C) "__contains__" = some (some (.ref f))) (hf : PySem.W.isFn X.K (.ref f) = true) (hb : Binds X.K fd ps []) (hx : Passes CX X E) :
    OpR X (compareOp .In) (rInO C sp E id) := by
  intro pins s σ H x y v u Q I rx ry h
  obtain ⟨a, dx, fs, rfl, ha, hsp⟩ := h
  cases ry
  obtain ⟨m, J, _⟩ := ins_get I.hok ha
  obtain ⟨od, J, _⟩ := J.look
  obtain ⟨m', hF⟩ := I.fr
  refine PySem.W.in_K hF I.ok.mod.kin J hs hf (own_run F hb hx hr rfl I (Paired.cons (F := RelV) (a := V.ref a) rfl (.cons rx .nil)) hsp fun v s' z => ?_)
  obtain ⟨v', H', I', r', z', e, q⟩ := z
  subst e
  cases r'
  exact wpAny_truthy_bool ⟨V.bl z', H', I', rfl, q⟩
end
end Vk
set_option Elab.async false
set_option linter.all false
set_option maxRecDepth 100000
/-! The places of a set's table, for tables of any size that comes: a search meets all of them. -/
namespace Vt
open PySem PySem.Spec PyProof.Rows L2
/-! ### the round i -> 5 i + 1, modulo a power of two, meets every number -/
def aa : Nat → Nat
  | 0 => 0
  | n + 1 => 5 * aa n + 1
theorem aa_add (n : Nat) : ∀ m, aa (n + m) = aa n + (4 * aa n + 1) * aa m
  | 0 => by simp [aa]
  | m + 1 => by
    show 5 * aa (n + m) + 1 = _
    rw [aa_add n m]
    show _ = aa n + (4 * aa n + 1) * (5 * aa m + 1)
    have key : (4 * aa n + 1) * (5 * aa m + 1) = 5 * ((4 * aa n + 1) * aa m) + (4 * aa n + 1) := by rw [Nat.mul_add, Nat.mul_one, Nat.mul_left_comm]
    rw [key]
    generalize (4 * aa n + 1) * aa m = Z
    omega
theorem aa_pow : ∀ e, ∃ q, aa (2 ^ e) = 2 ^ e * (2 * q + 1)
  | 0 => ⟨0, rfl⟩
  | e + 1 => by
    obtain ⟨q, h⟩ := aa_pow e
    have e2 : (2 : Nat) ^ (e + 1) = 2 ^ e + 2 ^ e := by rw [Nat.pow_succ]; omega
    obtain ⟨x, hx⟩ : ∃ x, x = aa (2 ^ e) := ⟨_, rfl⟩
    have h1 : aa (2 ^ (e + 1)) = 2 * ((2 * x + 1) * x) := by
      rw [e2, aa_add, ← hx, Nat.add_mul, Nat.add_mul, Nat.mul_assoc, Nat.mul_assoc]
      omega
    refine ⟨2 * x * q + x + q, ?_⟩
    rw [h1]
    have h2 : (2 * x + 1) * (2 * q + 1) = 2 * (2 * x * q + x + q) + 1 := by
      rw [Nat.add_mul, Nat.mul_add, Nat.mul_add]
      have : 2 * x * (2 * q) = 2 * (2 * x * q) := Nat.mul_left_comm _ _ _
      omega
    rw [← h2, Nat.pow_succ]
    conv => lhs; rw [show x = 2 ^ e * (2 * q + 1) from hx.trans h]
    rw [← show x = 2 ^ e * (2 * q + 1) from hx.trans h]
    rw [hx.trans h] 
    generalize 2 ^ e = M
    generalize (2 * (M * (2 * q + 1)) + 1) = Z
    rw [Nat.mul_left_comm Z M, Nat.mul_assoc M 2]
    exact Nat.mul_left_comm 2 M _
theorem aa_all : ∀ e j, j < 2 ^ e → ∃ n, n < 2 ^ e ∧ aa n % 2 ^ e = j
  | 0, j, h => ⟨0, by decide, by
    have : j = 0 := by
      have e : (2 : Nat) ^ 0 = 1 := rfl
      omega
    rw [this]
    rfl⟩
  | e + 1, j, h => by
    have hM : 0 < 2 ^ e := Nat.pow_pos (by decide)
    obtain ⟨n, hn, en⟩ := aa_all e (j % 2 ^ e) (Nat.mod_lt _ hM)
    obtain ⟨q, hq⟩ := aa_pow e
    have e2 : (2 : Nat) ^ (e + 1) = 2 * 2 ^ e := by rw [Nat.pow_succ]; omega
    obtain ⟨s, hs⟩ : ∃ s, aa (n + 2 ^ e) = aa n + 2 ^ e * (2 * s + 1) := by
      refine ⟨(4 * aa n + 1) * q + 2 * aa n, ?_⟩
      rw [aa_add, hq, Nat.mul_left_comm]
      congr 1
      congr 1
      rw [Nat.mul_add, Nat.mul_left_comm]
      omega
    rw [e2] at h ⊢
    generalize hMM : 2 ^ e = M at h hn en hs hM ⊢
    have d1 := Nat.div_add_mod (aa n) M
    rw [en] at d1
    have d2 := Nat.div_add_mod j M
    have hj2 : j / M < 2 := (Nat.div_lt_iff_lt_mul hM).mpr (by omega)
    have hr : j % M < M := Nat.mod_lt _ hM
    generalize j % M = r at d1 d2 hr
    generalize aa n / M = c at d1
    generalize j / M = b at d2 hj2
    have two : ∀ d y, y < 2 * M → (M * (2 * d) + y) % (2 * M) = y := fun d y hy => by
      rw [Nat.mul_left_comm, ← Nat.mul_assoc, Nat.mul_add_mod, Nat.mod_eq_of_lt hy]
    rcases Nat.mod_two_eq_zero_or_one (c + b) with z | z
    · refine ⟨n, by omega, ?_⟩
      obtain ⟨d, hd⟩ : ∃ d, c = 2 * d + b := ⟨(c - b) / 2, by omega⟩
      rw [← d1, hd, Nat.mul_add, Nat.add_assoc, d2]
      exact two d j (by omega)
    · refine ⟨n + M, by omega, ?_⟩
      obtain ⟨d, hd⟩ : ∃ d, c + (2 * s + 1) = 2 * d + b := ⟨(c + (2 * s + 1) - b) / 2, by omega⟩
      have e3 : aa n + M * (2 * s + 1) = M * (c + (2 * s + 1)) + r := by
        rw [← d1, Nat.mul_add M c]
        omega
      rw [hs, e3, hd, Nat.mul_add, Nat.add_assoc, d2]
      exact two d j (by omega)
/-- the masks of tables: one less than a power of two -/
def Pw (m : Nat) : Prop := ∃ e, 1 ≤ e ∧ m + 1 = 2 ^ e
theorem lcg_aa (m : Nat) : ∀ n, lcgN m n = aa n % (m + 1)
  | 0 => (Nat.zero_mod _).symm
  | n + 1 => by
    show (lcgN m n * 5 + 1) % (m + 1) = (5 * aa n + 1) % (m + 1)
    rw [lcg_aa m n, Nat.mul_comm 5, Nat.add_mod, Nat.mul_mod, Nat.mod_mod, ← Nat.mul_mod, ← Nat.add_mod]
theorem round_all {m i j : Nat} (p : Pw m) (hi : i ≤ m) (hj : j ≤ m) : ∃ k, k ≤ m ∧ lcgI m i k = j := by
  obtain ⟨e, _, he⟩ := p
  obtain ⟨a, ha, ea⟩ := aa_all e i (by omega)
  obtain ⟨b, hb, eb⟩ := aa_all e j (by omega)
  obtain ⟨q, hq⟩ := aa_pow e
  rw [← he] at ha hb ea eb hq
  have ei : i = lcgN m a := by rw [lcg_aa]; exact ea.symm
  rcases Nat.lt_or_ge b a with c | c
  · refine ⟨b + (m + 1) - a, by omega, ?_⟩
    rw [ei, lcgN_add, lcg_aa, show a + (b + (m + 1) - a) = b + (m + 1) by omega, aa_add, hq, Nat.mul_left_comm, Nat.add_mul_mod_self_left]
    exact eb
  · refine ⟨b - a, by omega, ?_⟩
    rw [ei, lcgN_add, lcg_aa, show a + (b - a) = b by omega]
    exact eb
theorem run_hits {m j : Nat} (p : Pw m) (h : Int) (hj : j ≤ m) : ∃ n, n ≤ m + 12 ∧ runI m (SetTable.bits h) n = j := by
  obtain ⟨k, hk, e⟩ := round_all p (runI_le m (SetTable.bits h) 12) hj
  exact ⟨12 + k, by omega, (runI_tail (bits_lt h) k).trans e⟩
theorem way_hits {m j : Nat} (p : Pw m) (h : Int) (hj : j ≤ m) : ∃ k, k < 10 * SetTable.turns m ∧ way m h k = j := by
  obtain ⟨n, hn, e⟩ := run_hits p h hj
  obtain ⟨k, hk, e2⟩ := run_nth m (SetTable.bits h) n
  refine ⟨k, by unfold SetTable.turns; omega, ?_⟩
  show (nth m (runAt m (SetTable.bits h % (m + 1)) (SetTable.bits h)) k).j = j
  rw [e2]
  exact e
theorem way_top (m : Nat) (h : Int) (k : Nat) : way m h k ≤ m := by
  have i0 : SetTable.bits h % (m + 1) ≤ m := Nat.le_of_lt_succ (Nat.mod_lt _ (Nat.succ_pos _))
  have r := runEnd_bd i0
  have start : (runAt m (SetTable.bits h % (m + 1)) (SetTable.bits h)).j + (runAt m (SetTable.bits h % (m + 1)) (SetTable.bits h)).more ≤ m := by
    show SetTable.bits h % (m + 1) + (SetTable.runEnd m (SetTable.bits h % (m + 1)) - SetTable.bits h % (m + 1)) ≤ m
    omega
  have q := nth_in (m := m) k _ start
  show (nth m (runAt m (SetTable.bits h % (m + 1)) (SetTable.bits h)) k).j ≤ m
  omega
/-- a table without dummies; each hash finds its place before the first free one of its way -/
structure Tab (t : SetTable) (hs : List Int) : Prop where
  up : Ris t.place.toList
  cl : t.dummies = #[]
  len : t.place.size = hs.length
  pw : Pw t.mask
  top : ∀ y ∈ t.place.toList, y ≤ t.mask
  met : ∀ (i : Nat) (h : Int) (j : Nat), hs[i]? = some h → t.place.toList[i]? = some j → ∃ k, way t.mask h k = j ∧ ∀ c, c < k → way t.mask h c ∈ t.place.toList
theorem Tab.odd {t : SetTable} {hs : List Int} (T : Tab t hs) : t.mask % 2 = 1 := by
  obtain ⟨e, h1, h2⟩ := T.pw
  obtain ⟨d, rfl⟩ : ∃ d, e = d + 1 := ⟨e - 1, by omega⟩
  rw [Nat.pow_succ] at h2
  omega
theorem Tab.gap {t : SetTable} {hs : List Int} (T : Tab t hs) (few : hs.length ≤ t.mask) (h : Int) : ∃ K, K < 10 * SetTable.turns t.mask ∧ way t.mask h K ∉ t.place.toList ∧ ∀ c, c < K → way t.mask h c ∈ t.place.toList := by
  obtain ⟨j, hj, out⟩ := st_missing t.place.toList (t.mask + 1) (by rw [Array.length_toList, T.len]; omega)
  obtain ⟨k, hk, rfl⟩ := way_hits T.pw h (Nat.le_of_lt_succ hj)
  obtain ⟨K, a1, a2, a3⟩ := st_least (p := fun c => way t.mask h c ∉ t.place.toList) k out
  exact ⟨K, Nat.lt_of_le_of_lt a1 hk, a2, fun c hc => Classical.byContradiction (a3 c hc)⟩
theorem Tab.ahead {t : SetTable} {hs : List Int} (T : Tab t hs) {h : Int} {K i j : Nat} (out : way t.mask h K ∉ t.place.toList) (hi : hs[i]? = some h) (hj : t.place.toList[i]? = some j) : ∃ k, k < K ∧ way t.mask h k = j := by
  obtain ⟨k, rfl, ins⟩ := T.met i h j hi hj
  refine ⟨k, ?_, rfl⟩
  rcases Nat.lt_trichotomy k K with c | c | c
  · exact c
  · subst c
    exact absurd (List.mem_of_getElem? hj) out
  · exact absurd (ins K c) out
theorem Tab.put {t : SetTable} {hs : List Int} (T : Tab t hs) {h : Int} {K : Nat} (out : way t.mask h K ∉ t.place.toList) (ins : ∀ c, c < K → way t.mask h c ∈ t.place.toList) {p : Nat} (hp : p = SetTable.below t.place (way t.mask h K)) :
    p ≤ hs.length ∧ Tab (t.put (way t.mask h K)).1 (hs.take p ++ h :: hs.drop p) ∧ (t.put (way t.mask h K)).1.fill = hs.length + 1 := by
  have jt := way_top t.mask h K
  obtain ⟨J, hJ⟩ : ∃ J, J = way t.mask h K := ⟨_, rfl⟩
  rw [← hJ] at out jt hp ⊢
  have lenP : t.place.toList.length = hs.length := T.len
  have ph : p ≤ hs.length := by
    rw [hp, ← T.len]
    exact (below_cut T.up J).1
  have pl : p ≤ t.place.toList.length := by rw [lenP]; exact ph
  have pp : (t.put J).1.place.toList = t.place.toList.take p ++ J :: t.place.toList.drop p := by rw [hp]; exact put_place t J
  have psz : (t.put J).1.place.size = hs.length + 1 := by rw [← Array.length_toList, pp, len_ins _ pl, lenP]
  have old : ∀ y, y ∈ t.place.toList → y ∈ (t.put J).1.place.toList := fun y hy => by rw [pp]; exact mem_ins.2 (.inr hy)
  refine ⟨ph, ⟨ris_insert T.up (fun z => out (List.mem_of_getElem? (by rw [Array.getElem?_toList]; exact z))), put_dm T.cl J, psz.trans (len_ins _ ph h).symm, T.pw, fun y hy => ?_, fun i g j gi gj => ?_⟩, ?_⟩
  · rcases mem_ins.1 (pp ▸ hy) with z | z
    · exact z ▸ jt
    · exact T.top y z
  · show ∃ k, way t.mask g k = j ∧ ∀ c, c < k → way t.mask g c ∈ (t.put J).1.place.toList
    have before : ∀ i', hs[i']? = some g → t.place.toList[i']? = some j → ∃ k, way t.mask g k = j ∧ ∀ c, c < k → way t.mask g c ∈ (t.put J).1.place.toList := fun i' y1 y2 => by
      obtain ⟨k, y3, y4⟩ := T.met i' g j y1 y2
      exact ⟨k, y3, fun c hc => old _ (y4 c hc)⟩
    rw [tins_get hs ph] at gi
    rw [pp, tins_get _ pl] at gj
    rcases Nat.lt_trichotomy i p with c | c | c
    · rw [if_pos c] at gi gj
      exact before i gi gj
    · rw [if_neg (by omega), if_pos c] at gi gj
      cases gi
      cases gj
      exact ⟨K, hJ.symm, fun c hc => old _ (ins c hc)⟩
    · rw [if_neg (by omega), if_neg (by omega)] at gi gj
      exact before (i - 1) gi gj
  · show (t.put J).1.place.size + (t.put J).1.dummies.size = _
    rw [psz, put_dm T.cl J] <;> rfl
/-! ### all laid anew -/
theorem free_hits {m j : Nat} (p : Pw m) (ow : Array (Option Nat)) (h : Int) (hj : j ≤ m) (hf : oAt ow j = none) :
    ∃ K, SetTable.layClean.free m ow (SetTable.turns m) (SetTable.bits h % (m + 1)) (SetTable.bits h) = some (way m h K) ∧ oAt ow (way m h K) = none ∧ ∀ c, c < K → oAt ow (way m h c) ≠ none := by
  obtain ⟨n, hn, e⟩ := run_hits p h hj
  have at_ : way m h (off m (SetTable.bits h % (m + 1)) (SetTable.bits h) n) = j := by
    show (nth m (runAt m _ _) _).j = j
    rw [nth_off, itL_run]
    exact e
  obtain ⟨K, a1, a2, a3⟩ := st_least (p := fun c => oAt ow (way m h c) = none) _ (show oAt ow (way m h (off m (SetTable.bits h % (m + 1)) (SetTable.bits h) n)) = none by rw [at_]; exact hf)
  refine ⟨K, free_spec m ow _ n _ _ K (by unfold SetTable.turns; omega) a1 (fun c hc => ?_) ?_, a2, a3⟩
  · show (oAt ow (way m h c)).isNone = false
    cases z : oAt ow (way m h c) with
    | none => exact absurd z (a3 c hc)
    | some _ => rfl
  · show (oAt ow (way m h K)).isNone = true
    rw [show oAt ow (way m h K) = none from a2] <;> rfl
theorem own_step {m : Nat} (p : Pw m) {done : List Int} {ow : Array (Option Nat)} (W : Own m done ow) (room : done.length ≤ m) (h : Int) :
    ∃ j, SetTable.layClean.free m ow (SetTable.turns m) (SetTable.bits h % (m + 1)) (SetTable.bits h) = some j ∧ Own m (done ++ [h]) (ow.setIfInBounds j (some done.length)) := by
  obtain ⟨ps, lps, inps⟩ := W.ps
  obtain ⟨j0, b0, o0⟩ := st_missing ps (m + 1) (by omega)
  have f0 : oAt ow j0 = none := Classical.byContradiction fun z => o0 (inps j0 (Nat.le_of_lt_succ b0) z)
  obtain ⟨K, y1, y2, y3⟩ := free_hits p ow h (Nat.le_of_lt_succ b0) f0
  obtain ⟨J, hJ⟩ : ∃ J, J = way m h K := ⟨_, rfl⟩
  have Jm : J ≤ m := hJ ▸ way_top m h K
  have Jo : J < ow.size := by rw [W.sz]; omega
  rw [← hJ] at y1 y2
  have here := oAt_set_self (some done.length) Jo
  have still : ∀ i, oAt ow i ≠ none → oAt (ow.setIfInBounds J (some done.length)) i ≠ none := fun i hi => by
    by_cases c : i = J
    · rw [c, here]
      exact fun z => nomatch z
    · rw [oAt_set_ne _ c]
      exact hi
  refine ⟨J, y1, ⟨by rw [Array.size_setIfInBounds]; exact W.sz, fun j k hj e => ?_, fun k hk => ?_, J :: ps, by rw [List.length_cons, lps, List.length_append] <;> rfl, fun j hj e => ?_⟩⟩
  · by_cases c : j = J
    · rw [c, here] at e
      cases e
      exact ⟨h, K, by rw [List.getElem?_append_right (Nat.le_refl _), Nat.sub_self] <;> rfl, hJ.symm.trans c.symm, fun c' hc => still _ (y3 c' hc)⟩
    · rw [oAt_set_ne _ c] at e
      obtain ⟨g, L, z1, z2, z3⟩ := W.at_ j k hj e
      exact ⟨g, L, by rw [List.getElem?_append_left (List.getElem?_eq_some_iff.mp z1).1]; exact z1, z2, fun c' hc => still _ (z3 c' hc)⟩
  · rcases Nat.lt_or_ge k done.length with c | c
    · obtain ⟨j, hj, e⟩ := W.all k c
      refine ⟨j, hj, ?_⟩
      rw [oAt_set_ne _ (fun z => by rw [z, y2] at e; cases e)]
      exact e
    · have : k = done.length := by
        rw [List.length_append] at hk
        have e : ([h] : List Int).length = 1 := rfl
        omega
      exact ⟨J, Jm, this ▸ here⟩
  · by_cases c : j = J
    · exact c ▸ List.mem_cons_self
    · rw [oAt_set_ne _ c] at e
      exact .tail _ (inps j hj e)
theorem own_fold {m : Nat} (p : Pw m) : ∀ (rest done : List Int) (ow : Array (Option Nat)), Own m done ow → done.length + rest.length ≤ m →
    ∃ ow', rest.foldl (stepF m) (some (ow, done.length)) = some (ow', (done ++ rest).length) ∧ Own m (done ++ rest) ow'
  | [], done, ow, W, _ => ⟨ow, by rw [List.append_nil] <;> rfl, by rw [List.append_nil]; exact W⟩
  | h :: rest, done, ow, W, room => by
    have l1 : (h :: rest).length = rest.length + 1 := rfl
    obtain ⟨j, y, W1⟩ := own_step p W (by omega) h
    have l2 : (done ++ [h]).length = done.length + 1 := List.length_append
    obtain ⟨ow', f, W2⟩ := own_fold p rest (done ++ [h]) _ W1 (by omega)
    rw [l2] at f
    rw [show done ++ [h] ++ rest = done ++ h :: rest by rw [List.append_assoc] <;> rfl] at f W2
    exact ⟨ow', by rw [List.foldl_cons, stepF_some y]; exact f, W2⟩
theorem lay_own {m : Nat} (p : Pw m) {hs : Array Int} (room : hs.size ≤ m) : ∃ ow, SetTable.layClean m hs = some ow ∧ Own m hs.toList ow := by
  obtain ⟨ow, f, W⟩ := own_fold p hs.toList [] _ (Own.init m) (by show 0 + hs.toList.length ≤ m; rw [Array.length_toList]; omega)
  refine ⟨ow, ?_, by rw [← List.nil_append hs.toList]; exact W⟩
  rw [layClean_eq, show hs.toList.foldl (stepF m) (some (Array.replicate (m + 1) none, 0)) = _ from f] <;> rfl
theorem relaid_tab (t : SetTable) {hs : Array Int} {wanted M : Nat} (hw : SetTable.sizeAbove wanted - 1 = M) (p : Pw M) (room : hs.size ≤ M) :
    ∃ t' ord, t.relaid hs wanted = some (t', ord) ∧ ord.toList.Perm (List.range hs.size) ∧ Tab t' (ord.toList.map fun i => hs.getD i 0) ∧ t'.mask = M ∧ t'.led = t.led ∧ t'.plain = t.plain := by
  obtain ⟨ow, e, W⟩ := lay_own p room
  have two := ris_live (fun j => ow.getD j none) (List.range (M + 1)) (by
    unfold Ris
    first | exact List.pairwise_lt_range | exact List.pairwise_lt_range _)
  have up : Ris ((liveOf M ow).map (·.1)) := two.1
  have inr : ∀ y ∈ (liveOf M ow).map (·.1), y ≤ M := fun y hy => Nat.le_of_lt_succ (List.mem_range.mp (two.2 y hy))
  have nd : ((liveOf M ow).map (·.1)).Nodup := List.Pairwise.imp (fun h => Nat.ne_of_lt h) up
  have hz : hs.toList.length = hs.size := rfl
  have size : (liveOf M ow).length = hs.size := by
    obtain ⟨ps, lps, inps⟩ := W.ps
    have a := nat_nodup_len ((liveOf M ow).map (·.1)) ps nd fun y hy => by
      obtain ⟨⟨y', k⟩, hq, rfl⟩ := List.mem_map.mp hy
      obtain ⟨b1, b2⟩ := (mem_live W.sz).1 hq
      exact inps y' b1 (fun z => by rw [b2] at z; cases z)
    have b := nat_nodup_len (List.range hs.size) ((liveOf M ow).map (·.2)) List.nodup_range fun k hk => by
      obtain ⟨j, b1, b2⟩ := W.all k (List.mem_range.mp hk)
      exact List.mem_map.mpr ⟨(j, k), (mem_live W.sz).2 ⟨b1, b2⟩, rfl⟩
    rw [List.length_map] at a b
    rw [List.length_range] at b
    omega
  refine ⟨tabOf t M ow, ((liveOf M ow).map (·.2)).toArray, by rw [relaid_eq, hw, e] <;> rfl, perm_range hs.size _ ((List.length_map _).trans size) (fun k hk => ?_), ⟨up, rfl, ?_, p, inr, fun i h j h1 h2 => ?_⟩, rfl, rfl, rfl⟩
  · obtain ⟨j, b1, b2⟩ := W.all k hk
    exact List.mem_map.mpr ⟨(j, k), (mem_live W.sz).2 ⟨b1, b2⟩, rfl⟩
  · show ((liveOf M ow).map (·.1)).toArray.size = (((liveOf M ow).map (·.2)).map fun i => hs.getD i 0).length
    simp
  · have g1 : (((liveOf M ow).map (·.2)).map fun i => hs.getD i 0)[i]? = some h := h1
    have g2 : ((liveOf M ow).map (·.1))[i]? = some j := h2
    rw [List.getElem?_map] at g2
    rw [List.getElem?_map, List.getElem?_map] at g1
    cases hq : (liveOf M ow)[i]? with
    | none =>
      rw [hq] at g2
      cases g2
    | some q =>
      obtain ⟨y, k⟩ := q
      rw [hq] at g1 g2
      cases g2
      obtain ⟨b1, b2⟩ := (mem_live W.sz).1 (List.mem_of_getElem? hq)
      obtain ⟨h0, K, c1, c2, c3⟩ := W.at_ _ k b1 b2
      have e0 : hs.getD k 0 = h0 := by rw [Array.getD_eq_getD_getElem?, ← Array.getElem?_toList, c1] <;> rfl
      have eh : h0 = h := e0.symm.trans (Option.some.inj g1)
      subst eh
      refine ⟨K, c2, fun c hc => ?_⟩
      show way M h0 c ∈ (liveOf M ow).map (·.1)
      cases z : oAt ow (way M h0 c) with
      | none => exact absurd z (c3 c hc)
      | some k2 => exact List.mem_map.mpr ⟨(way M h0 c, k2), (mem_live W.sz).2 ⟨way_top .., z⟩, rfl⟩
end Vt
set_option Elab.async false
set_option linter.all false
set_option maxRecDepth 100000
set_option maxHeartbeats 4000000
/-! sorted over any set whose members read as data; sets of texts, made of a text or of a list of texts. -/
namespace Vs
open PySem PySem.Spec PyProof.Rows L2
section
variable {α β : Type} {R : α → β → Prop}
theorem each_swap {a b : α} {xs : List α} {bs : List β} (h : PySem.W.EachIs R (a :: b :: xs) bs) : ∃ bs', bs'.Perm bs ∧ PySem.W.EachIs R (b :: a :: xs) bs' := by
  cases h with
  | cons h1 t =>
    cases t with
    | cons h2 t => exact ⟨_, List.Perm.swap .., .cons h2 (.cons h1 t)⟩
theorem each_perm {xs ys : List α} (p : ys.Perm xs) : ∀ {bs : List β}, PySem.W.EachIs R xs bs → ∃ bs', bs'.Perm bs ∧ PySem.W.EachIs R ys bs' := by
  have key : ∀ {xs ys : List α}, xs.Perm ys → ∀ {bs : List β}, PySem.W.EachIs R xs bs → ∃ bs', bs'.Perm bs ∧ PySem.W.EachIs R ys bs' := by
    intro xs ys p
    induction p with
    | nil => exact fun h => ⟨_, .refl _, h⟩
    | cons x _ ih =>
      intro bs h
      cases h with
      | cons h1 t =>
        obtain ⟨bs', q, e⟩ := ih t
        exact ⟨_, q.cons _, .cons h1 e⟩
    | swap x y l => exact fun h => each_swap h
    | trans _ _ ih1 ih2 =>
      intro bs h
      obtain ⟨b1, q1, e1⟩ := ih1 h
      obtain ⟨b2, q2, e2⟩ := ih2 e1
      exact ⟨b2, q2.trans q1, e2⟩
  intro bs h
  exact key p.symm h
end
section
variable {P : Program} {w : World} {A : Around} {E : Value → Shared → Prop} {s : Shared}
theorem sorted_setG {β : Type} {enc : β → PyData} {R : Value → β → Prop} {bs : List β} {a : Addr} {es : Array (Int × Value)} {ep : Nat} {t : SetTable} {Q : Value → Shared → Prop}
    (hh : A.handled = none) (ha : SetAt s.heap a es ep t) (hf : t.fits es.size = true) (hsz : es.size < scanBound) (hr : Ris t.place.toList) (hl : w.params.followText "set-order" = true ∨ t.led = true)
    (er : PySem.W.EachIs (fun v b => R v b ∧ Reads s.heap v (enc b) []) (es.toList.map (·.2)) bs) (hal : PySem.W.AllAlike (bs.map enc)) (hk : PySem.W.Sortable (bs.map enc)) (hu : ∀ b, b ∈ bs → A.units + 2 + (enc b).depth < cLine)
    (hQ : ∀ s' p (out : List Value) (c : Nat) (bs' : List β), (∀ b o, s.heap.get? b = some o → s'.heap.get? b = some o) → s'.gens = s.gens → s'.os = s.os → s.heap.objs.size ≤ p →
      s'.heap.get? p = some (seqObj "list" out.toArray c) → bs'.Perm bs → PySem.W.EachIs R out (bs'.mergeSort (PySem.W.dataLe false enc)) → Q (.ref p) s') :
    wpAny (model P w) A (call (.builtin "sorted") [.ref a]) Q E s := by
  refine Calls.call_function_entry kind_sorted plain_sorted entry_sorted (args_sorted1 _) (?_)
  unfold Builtin.«sorted»
  refine wpAny_bind (m := checkCount "sorted" 1 1 _) (wpAny_pure (?_))
  refine wpAny_bind (collect_set (A := A.in1) hh ha hf hsz hr hl fun s1 vs k1 hz g1 o1 pm => ?_)
  obtain ⟨bs1, pb, e1⟩ := each_perm pm er
  have hvl : vs.length = es.size := by rw [pm.length_eq, List.length_map, Array.length_toList]
  have hbl : bs1.length = vs.length := e1.length.symm
  have hle : vs.length ≤ sizeLine := by rw [hvl]; exact fits_of_scanBound hsz
  refine wpAny_bind (wpAny_newList ?_ hle)
  have hoL : (s1.heap.push (seqObj "list" vs.toArray 0)).get? s1.heap.objs.size = some (seqObj "list" vs.toArray 0) := Heap.get?_push_size _ rfl
  have mm : ∀ b, b ∈ bs1 → b ∈ bs := fun b hb => pb.mem_iff.mp hb
  have hal1 : PySem.W.AllAlike (bs1.map enc) := fun d hd d' hd' => by
    obtain ⟨b, hb, rfl⟩ := List.mem_map.mp hd
    obtain ⟨b', hb', rfl⟩ := List.mem_map.mp hd'
    exact hal _ (List.mem_map.mpr ⟨b, mm b hb, rfl⟩) _ (List.mem_map.mpr ⟨b', mm b' hb', rfl⟩)
  have hk1 : PySem.W.Sortable (bs1.map enc) := by
    rcases hk with z | z
    · refine .inl fun d hd => ?_
      obtain ⟨b, hb, rfl⟩ := List.mem_map.mp hd
      exact z _ (List.mem_map.mpr ⟨b, mm b hb, rfl⟩)
    · refine .inr fun d hd => ?_
      obtain ⟨b, hb, rfl⟩ := List.mem_map.mp hd
      exact z _ (List.mem_map.mpr ⟨b, mm b hb, rfl⟩)
  refine wpAny_bind (wpAny_holding (PySem.W.list_sort_data (R := R) hoL (e1.mono fun _ _ z => z.1) (e1.mono fun v b z => ⟨[], PyProof.Rows.Reads.keeps (fun b o e => Heap.get?_push_of_some _ (k1 b o e)) z.2, fun y => nomatch y⟩) hal1 hk1
    (by rw [hbl]; exact hle) (fun b hb => ?_) fun out h1 h2 => ?_))
  · have := hu b (mm b hb)
    show A.units + 1 + 1 + (enc b).depth < cLine
    omega
  · obtain ⟨c, hc⟩ := sortedHeap_at (vs := vs) (out := out.toArray) hoL
    refine wpAny_pure ⟨_, rfl, hQ _ s1.heap.objs.size out c bs1 (fun b u e => ?_) g1 o1 hz hc pb h2⟩
    have q := k1 b u e
    have hlt := Heap.lt_size q
    show (sortedHeap (s1.heap.push (seqObj "list" vs.toArray 0)) s1.heap.objs.size vs out.toArray).get? b = some u
    rw [sortedHeap_old (Nat.ne_of_lt hlt) (by rw [size_push']; exact Nat.lt_succ_of_lt hlt)]
    exact Heap.get?_push_of_some _ q
end
/-! ## a set of texts at a: l its members, each once -/
def SetS (P : Program) (w : World) (h : Heap) (a : Addr) (l : List Str) : Prop := ∃ D : Froz.SD, h.get? a = some (Froz.sObj "set" D) ∧ Froz.TxOk P w D l ∧ l.Nodup ∧ l.length < scanBound ∧ Ris D.2.2.place.toList ∧ (w.params.followText "set-order" = true ∨ D.2.2.led = true)
theorem SetS.at {P : Program} {w : World} {h h' : Heap} {a : Addr} {l : List Str} (x : SetS P w h a l) (k : ∀ o, h.get? a = some o → h'.get? a = some o) : SetS P w h' a l := by
  obtain ⟨D, ho, r⟩ := x
  exact ⟨D, k _ ho, r⟩
theorem tail_both {ep : Nat} {es1 : Array (Int × Value)} {t2 : SetTable} {wd : Bool} (r : Ris t2.place.toList) : Ris (Froz.tailTx ep es1 t2 wd).2.2.place.toList ∧ (Froz.tailTx ep es1 t2 wd).2.2.led = t2.led := by
  unfold Froz.tailTx
  by_cases c : (!wd && t2.tooFull) = true
  · rw [if_pos c]
    exact ⟨relayAll_ris _ _ _, relayAll_led _ _ _⟩
  · rw [if_neg c]
    exact ⟨r, rfl⟩
theorem plain_off (t : SetTable) : (if t.plain = true then { t with plain := false } else t).place = t.place ∧ (if t.plain = true then { t with plain := false } else t).led = t.led := by
  split
  · exact ⟨rfl, rfl⟩
  · exact ⟨rfl, rfl⟩
theorem ris_addTx {hv : Int} {v : Value} {D : Froz.SD} (r : Ris D.2.2.place.toList) : Ris (Froz.addTx hv v D).2.2.place.toList := by
  unfold Froz.addTx
  refine (tail_both ?_).1
  rw [(plain_off _).1]
  exact layNew_ris D.2.2 D.1 hv v r
theorem led_addTx {hv : Int} {v : Value} {D : Froz.SD} (r : Ris D.2.2.place.toList) : (Froz.addTx hv v D).2.2.led = D.2.2.led := by
  unfold Froz.addTx
  refine (tail_both ?_).2.trans ((plain_off _).2.trans (layNew_led D.2.2 D.1 hv v))
  rw [(plain_off _).1]
  exact layNew_ris D.2.2 D.1 hv v r
section
variable {P : Program} {w : World} {A : Around} {E : Value → Shared → Prop} {s : Shared} {a : Addr} {l : List Str}
/-- a text that is there already -/
theorem add_again {D : Froz.SD} {k : Str} {u : Tok} {Q : Bool → Shared → Prop} (ho : s.heap.get? a = some (Froz.sObj "set" D)) (F : Froz.TxOk P w D l) (hk : k ∈ l) (hb : l.length < scanBound)
    (h : Q false s) : wpAny (model P w) A (setAddHashed a (.str k u) (hashStr w k)) Q E s := by
  obtain ⟨es, ep, t⟩ := D
  have hb0 : es.size < scanBound := by rw [show es.size = l.length from F.sz]; exact hb
  unfold setAddHashed setAddHashedIn
  refine wpAny_holding (wpAny_bind (wpAny_setState_of (es := es) (ep := ep) (t := t) ho rfl F.fit ?_))
  dsimp only
  rw [byScan_of (x := Value.str k u) rfl hb0 F.el]
  simp only [↓reduceIte]
  unfold setAddByScan
  refine wpAny_bind (wpAny_bind (wpAny_rule (wpAny_bind (wpAny_setScan_of (knd := strKind P w) (k := k) (Froz.is_str k u) ho rfl F.fit F.el ?_))))
  cases hf : List.findIdx? (fun e => (strKind P w).is k e.2) es.toList with
  | some j => exact wpAny_pure (wpAny_pure h)
  | none =>
    obtain ⟨e, he, z⟩ := (F.mem k).mp hk
    have := List.findIdx?_eq_none_iff.mp hf e he
    rw [z] at this
    cases this
theorem setS_add {k : Str} {u : Tok} {Q : Bool → Shared → Prop} (x : SetS P w s.heap a l) (room : l.length + 1 < scanBound)
    (h : ∀ h' b, Heap.SameBut a s.heap h' → SetS P w h' a (if k ∈ l then l else k :: l) → Q b { s with heap := h' }) : wpAny (model P w) A (setAddHashed a (.str k u) (hashStr w k)) Q E s := by
  have x0 := x
  obtain ⟨D, ho, F, nd, hb, r, ld⟩ := x
  by_cases hk : k ∈ l
  · refine add_again ho F hk hb ?_
    have := h s.heap false (Heap.SameBut.refl a s.heap)
    rw [if_pos hk] at this
    exact this x0
  · refine Froz.add_x ho F hk room ?_
    refine h _ true (Heap.SameBut.update _ a _) ?_
    rw [if_neg hk]
    exact ⟨_, Froz.get_upd _ ho rfl, Froz.add_ok u F, List.nodup_cons.mpr ⟨hk, nd⟩, room, ris_addTx r, ld.imp id fun z => by rw [led_addTx r]; exact z⟩
end
/-- l with the texts ks put to it, one by one -/
def putL : List Str → List Str → List Str
  | l, [] => l
  | l, k :: ks => putL (if k ∈ l then l else k :: l) ks
theorem mem_putL {k : Str} : ∀ {ks l : List Str}, k ∈ putL l ks ↔ k ∈ l ∨ k ∈ ks
  | [], l => by simp [putL]
  | z :: ks, l => by
    rw [putL, mem_putL, List.mem_cons]
    by_cases hz : z ∈ l
    · rw [if_pos hz]
      exact ⟨fun q => q.elim .inl fun y => .inr (.inr y), fun q => q.elim .inl fun y => y.elim (fun e => .inl (e ▸ hz)) .inr⟩
    · rw [if_neg hz, List.mem_cons]
      exact ⟨fun q => q.elim (fun y => y.elim (fun e => .inr (.inl e)) .inl) fun y => .inr (.inr y), fun q => q.elim (fun y => .inl (.inr y)) fun y => y.elim (fun e => .inl (.inl e)) .inr⟩
theorem len_putL : ∀ {ks l : List Str}, (putL l ks).length ≤ l.length + ks.length
  | [], l => Nat.le_refl _
  | z :: ks, l => by
    rw [putL]
    refine Nat.le_trans len_putL ?_
    split
    · rw [List.length_cons]; omega
    · rw [List.length_cons, List.length_cons]; omega
section
variable {P : Program} {w : World} {A : Around} {R : Result → Shared → Prop}
theorem update_texts {I : Addr} {fp wr : List Addr} {G : Array GenState → Array GenState → Prop} {n : Nat} {Pv : Nat → Value → Prop} {St : Nat → Shared → Prop} (W : WalksS P w A.in1 I fp wr G n Pv St) (S : Addr) (hS : S ∉ fp)
    (ks : List Str) (hn : n = ks.length) (hv : ∀ i v, Pv i v → ∃ k t, ks[i]? = some k ∧ v = .str k t) : ∀ (m i : Nat) (l : List Str) (s : Shared), n - i = m → i ≤ n → St i s → SetS P w s.heap S l → l.length + (n - i) + 1 < scanBound →
      (∀ s', Moved (S :: wr) G s s' → SetS P w s'.heap S (putL l (ks.drop i)) → R (.ok (.ret .none)) s') → codeAny (model P w) A (.builtin "set.update.loop" ⟨[.ref S, .ref I], []⟩) R s := by
  have hw : S ∉ wr := fun h => hS (W.sub _ h)
  have up : ∀ b ∈ wr, b ∈ S :: wr := fun b hb => .tail _ hb
  intro m
  induction m with
  | zero =>
    intro i l s hm hi st x hb fin
    obtain rfl : i = n := by omega
    refine codeAny_builtin F.entry_set_update_loop (?_)
    rw [(Around.under_plainId F.plain_set_update_loop _ :)]
    show wpAny _ A.in1 (pyNext (.ref I) >>= _) _ _ s
    refine wpAny_bind (W.done s _ _ st fun s' mv => wpAny_pure (fin s' (mv.mono up) ?_))
    rw [List.drop_of_length_le (by omega)]
    exact x.at fun o e => mv.heap S o hw e
  | succ m ih =>
    intro i l s hm hi st x hb fin
    have hlt : i < n := by omega
    refine codeAny_builtin F.entry_set_update_loop (?_)
    rw [(Around.under_plainId F.plain_set_update_loop _ :)]
    show wpAny _ A.in1 (pyNext (.ref I) >>= _) _ _ s
    refine wpAny_bind (W.item i s _ _ hlt st fun v s' pv st' mv => ?_)
    obtain ⟨z, t, hz, rfl⟩ := hv i v pv
    have x' : SetS P w s'.heap S l := x.at fun o e => mv.heap S o hw e
    show wpAny _ A.in1 (holding [Value.str z t] (setAdd S (.str z t)) >>= _) _ _ s'
    refine wpAny_bind (wpAny_holding ?_)
    unfold setAdd
    refine wpAny_holding (wpAny_bind ((strKind P w).pyHash (k := z) (Froz.is_str z t) ?_))
    refine setS_add (s := { s' with toks := s'.toks + 1 }) x' (by omega) fun h' b sb x2 => ?_
    have hd : ks.drop i = z :: ks.drop (i + 1) := by
      have hk : i < ks.length := by omega
      rw [List.drop_eq_getElem_cons hk]
      rw [List.getElem?_eq_getElem hk] at hz
      rw [Option.some.inj hz]
    have keep : ∀ b o, b ≠ S → s'.heap.get? b = some o → h'.get? b = some o := fun b o hb e => (sb.2 b hb).trans e
    refine wpAny_pure ⟨plainId_quiet F.plain_set_update_loop _, ih (i + 1) _ _ (by omega) hlt (W.frame _ s' _ _ st' (Nat.le_succ _) fun b hb o e => keep b o (fun y => hS (y ▸ hb)) e) x2 ?_ fun s2 m2 x3 => ?_⟩
    · split
      · omega
      · rw [List.length_cons]; omega
    · refine fin s2 (Moved.trans W.gtrans ((mv.mono up).then_heap (Nat.le_succ _) fun b o hb e => keep b o (fun y => hb (y ▸ List.mem_cons_self)) e) m2) ?_
      rw [hd]
      exact x3
end
/-- the object of a new set -/
abbrev newO (w : World) : Obj := { cls := .type "set", dict := none, data := .set #[] 0 (.fresh 0 0 (!w.params.followText "set-order")) }
/-- x is iterated: texts xs, one by one, by an iterator that is new -/
def IterT (P : Program) (w : World) (x : Value) (S : Addr) (s1 : Shared) (xs : List Str) : Prop := ∀ (A1 : Around) (E1 : Value → Shared → Prop) (Q1 : Value → Shared → Prop),
  (∀ (o : Obj) (fp : List Addr) (Pv : Nat → Value → Prop) (St : Nat → Shared → Prop), (∀ A2 : Around, A2.handled = none → WalksS P w A2 s1.heap.objs.size fp [s1.heap.objs.size] (fun a b => b = a) xs.length Pv St) → S ∉ fp →
    (∀ i v, Pv i v → ∃ k t, xs[i]? = some k ∧ v = .str k t) → St 0 { s1 with heap := s1.heap.push o } → Q1 (.ref s1.heap.objs.size) { s1 with heap := s1.heap.push o }) → wpAny (model P w) A1 (pyIter x) Q1 E1 s1
theorem setS_new {P : Program} {w : World} {h : Heap} {a : Addr} (ho : h.get? a = some (newO w)) : SetS P w h a [] :=
  ⟨(#[], 0, .fresh 0 0 (!w.params.followText "set-order")), ho, Froz.TxOk.nil (by rfl), .nil, by decide, List.Pairwise.nil, by
    show _ ∨ (!w.params.followText "set-order") = true
    cases w.params.followText "set-order"
    · exact .inr rfl
    · exact .inl rfl⟩
section
variable {P : Program} {w : World} {A : Around} {E : Value → Shared → Prop} {s : Shared}
theorem call_setG {x : Value} {T : String} {xs : List Str} {Q : Value → Shared → Prop} (hh : A.handled = none) (hT : Shared.TypeIs { s with heap := s.heap.push (newO w) } x T) (n1 : isSubtype (.type T) (.type "set") = pure false)
    (n2 : isSubtype (.type T) (.type "frozenset") = pure false) (n3 : (Value.type T == Value.type "dict") = false) (hi : IterT P w x s.heap.objs.size { s with heap := s.heap.push (newO w) } xs) (hb : xs.length + 1 < scanBound)
    (h : ∀ (h' : Heap) (tk : Nat), SetS P w h' s.heap.objs.size (putL [] xs) → (∀ b o, s.heap.get? b = some o → h'.get? b = some o) → Q (.ref s.heap.objs.size) { s with heap := h', toks := tk }) :
    wpAny (model P w) A (call (.type "set") [x]) Q E s := by
  obtain ⟨c, tl, mm⟩ := F.called_set.mro
  have made := F.called_set.made
  have sub := F.called_set.sub
  refine wpAny_call (codeAny_of_tree (?_))
  show wpAny _ _ (callAny (.type "set") ⟨[x], []⟩) _ _ _
  refine wpAny_pure ⟨Code.quiet_builtin _ (by decide +kernel), codeAny_builtin F.entry_type_call (?_)⟩
  rw [(Around.under_plain (weight_type_call_type "set" [x] []) rfl :)]
  have notT := F.called_set.notType
  have can := F.called_set.canCreate
  have tc := F.typeCall_set_1 x
  repeat (any_goals (first | assumption | wp_step))
  refine codeAny_mono (code_set_led1 x (E := E) (Q₁ := fun ob s1 => ob = .ref s.heap.objs.size ∧ s1 = { s with heap := s.heap.push (newO w) }) ⟨rfl, rfl⟩) fun r s1 hr => ?_
  cases r with
  | error e => exact hr
  | ok fl =>
    cases fl with
    | ret ob =>
      obtain ⟨rfl, rfl⟩ := hr
      have hS : (s.heap.push (newO w)).get? s.heap.objs.size = some (newO w) := Heap.get?_push_size _ rfl
      have hTS : Shared.TypeIs { s with heap := s.heap.push (newO w) } (.ref s.heap.objs.size) "set" := ⟨_, hS, rfl⟩
      have il := F.called_set.init.lookup
      have ib := F.called_set.init.bind (.ref s.heap.objs.size)
      repeat (any_goals (first | assumption | wp_step))
      refine codeAny_mono (codeAny_call_builtin (R := wants (fun r s2 => r = .none ∧ ∃ h' tk, s2 = { s with heap := h', toks := tk } ∧ SetS P w h' s.heap.objs.size (putL [] xs) ∧ (∀ b o, s.heap.get? b = some o → h'.get? b = some o)) E)
        F.called_set.init.plain F.entry_set_init (check_set_init_1 hTS ?_)) fun r2 s2 hr2 => ?_
      · unfold Builtin.«set.__init__» noKeywords Builtin.Frozenset.updateFrom
        generalize hPI : pyIter = PI
        wp_walk
        subst hPI
        refine hi _ _ _ fun o fp Pv St W hS' hv st => ?_
        refine wpAny_bind (wpAny_runValue (?_))
        refine update_texts (W _ (by simp [hh])) s.heap.objs.size hS' xs rfl hv xs.length 0 [] _ (by omega) (Nat.zero_le _) st (setS_new (Heap.get?_push_of_some _ hS)) (by show 0 + (xs.length - 0) + 1 < scanBound; omega) fun s' mv y => ?_
        obtain ⟨h', g2, d', tk', os'⟩ := s'
        obtain rfl : g2 = s.gens := mv.gens
        obtain rfl : d' = s.drawn := mv.drawn
        obtain rfl : os' = s.os := mv.os
        show wpAny _ _ _ _ _ _
        refine wpAny_pure ?_
        show wpAny _ _ (ret Value.none) _ _ _
        refine wpAny_pure ⟨rfl, h', tk', rfl, y, fun b o e => ?_⟩
        have b0 : b < s.heap.objs.size := Heap.lt_size e
        refine mv.heap b o (fun z => ?_) (Heap.get?_push_of_some _ (Heap.get?_push_of_some _ e))
        rcases List.mem_cons.mp z with z | z
        · exact absurd b0 (by rw [z]; exact Nat.lt_irrefl _)
        · have z2 : b = s.heap.objs.size + 1 := (List.mem_singleton.mp z).trans (size_push' _ _)
          exact absurd b0 (by rw [z2]; exact Nat.not_lt_of_le (Nat.le_succ _))
      · cases r2 with
        | error e => exact hr2
        | ok f2 =>
          cases f2 with
          | ret r =>
            obtain ⟨rfl, h', tk, rfl, y, k⟩ := hr2
            repeat (any_goals (first | assumption | wp_step))
            exact h _ _ y k
          | _ => exact hr2.elim
    | _ => exact hr.elim
end
section
variable {P : Program} {w : World} {A : Around} {E : Value → Shared → Prop} {s : Shared}
def tsigns (x : Str) : List Str := x.cps.toList.map fun c => ⟨#[c]⟩
theorem iter_text {x : Str} {t : Tok} {S : Addr} (hS : S ≠ s.heap.objs.size) : IterT P w (.str x t) S s (tsigns x) := by
  intro A1 E1 Q1 q
  refine wpAny_pyIter_str fun o St W st => ?_
  refine q o [s.heap.objs.size] (SignAt x) (fun i s' => St i s'.heap) (fun A2 h2 => ?_) (fun z => hS (List.mem_singleton.mp z)) (fun i v hv => ?_) st
  · have z := (W A2 h2).toS
    have e : (tsigns x).length = x.cps.size := by simp [tsigns]
    rw [e]
    exact z
  · obtain ⟨c, u, hc, rfl⟩ := hv
    refine ⟨⟨#[c]⟩, u, ?_, rfl⟩
    unfold tsigns
    rw [List.getElem?_map, Array.getElem?_toList, hc] <;> rfl
theorem iter_listT {l : Addr} {items : List Value} {xs : List Str} {S : Addr} (hl : s.heap.IsList l items.toArray) (hv : PySem.W.EachIs (fun v (k : Str) => ∃ t, v = .str k t) items xs) (hS : S ≠ s.heap.objs.size) (hSl : S ≠ l) : IterT P w (.ref l) S s xs := by
  intro A1 E1 Q1 q
  have hlt : l < s.heap.objs.size := by
    obtain ⟨_, e, _⟩ := hl
    exact Heap.lt_size e
  refine wpAny_pyIter_list hl ?_
  have hsz : items.toArray.size = xs.length := by rw [List.size_toArray]; exact hv.length
  have ne : l ≠ s.heap.objs.size := Nat.ne_of_lt hlt
  refine q _ [s.heap.objs.size, l] (fun i v => items.toArray[i]? = some v) (fun i s' => s'.heap.IsListIter s.heap.objs.size l i ∧ s'.heap.IsList l items.toArray) (fun A2 h2 => ?_) (fun z => ?_) (fun i v e => ?_) ⟨?_, ?_⟩
  · have z := (Walks.list (prog := P) (w := w) h2 s.heap.objs.size l ne items.toArray).toS
    rw [hsz] at z
    exact z
  · rcases List.mem_cons.mp z with z | z
    · exact hS z
    · exact hSl (List.mem_singleton.mp z)
  · have e1 : items[i]? = some v := by
      rw [← e]
      simp
    have key : ∀ {us : List Value} {ks : List Str}, PySem.W.EachIs (fun v (k : Str) => ∃ t, v = .str k t) us ks → ∀ (i : Nat), us[i]? = some v → ∃ k t, ks[i]? = some k ∧ v = .str k t := by
      intro us ks h
      induction h with
      | nil => intro i e; simp at e
      | cons h1 _ ih =>
        intro i e
        cases i with
        | zero =>
          obtain ⟨t, e2⟩ := h1
          simp at e
          exact ⟨_, t, rfl, by rw [← e]; exact e2⟩
        | succ i =>
          rw [List.getElem?_cons_succ] at e
          obtain ⟨k, t, e2, e3⟩ := ih i e
          exact ⟨k, t, by rw [List.getElem?_cons_succ]; exact e2, e3⟩
    exact key hv i e1
  · exact ⟨_, Heap.get?_push_size _ rfl, rfl, rfl⟩
  · exact hl.push _
theorem perm_of_len {α : Type} [DecidableEq α] : ∀ {l ks : List α}, l.Nodup → (∀ x ∈ l, x ∈ ks) → ks.length = l.length → ks.Perm l
  | [], ks, _, _, h => by rw [List.eq_nil_of_length_eq_zero h]
  | x :: l, ks, nd, hs, h => by
    obtain ⟨n1, n2⟩ := List.nodup_cons.mp nd
    have hx := hs x List.mem_cons_self
    have p := List.perm_cons_erase hx
    refine p.trans ((perm_of_len n2 (fun y hy => ?_) ?_).cons x)
    · exact (List.mem_erase_of_ne (fun (e : y = x) => n1 (by rw [← e]; exact hy))).2 (hs y (.tail _ hy))
    · rw [List.length_erase_of_mem hx, h] <;> rfl
end
end Vs
namespace Vk
open PySem PySem.Spec PyProof.Rows L2 Vs
def SetSO (P : Program) (w : World) (a : Addr) (l : List Str) : HO := .ext fun h => SetS P w h a l
def leS (x y : Str) : Bool := decide (x.cps.toList ≤ y.cps.toList)
section
variable {X : Cx}
theorem setSO_new {P : Program} {w : World} {H : Hp} {h : Heap} {a : Addr} {l : List Str} (x : SetS P w h a l) : ObjOk P w H h a (SetSO P w a l) := by
  have ⟨D, ho, _⟩ := x
  exact ⟨x, ⟨_, ho⟩, fun h1 h2 p k => p.at k⟩
/-- set(z) of a text -/
def rSetTxt (P : Program) (w : World) : List V → Hp → VK → Prop := fun vs H Q => ∃ z, vs = [.str z] ∧ z.cps.size + 1 < scanBound ∧ ∀ p, H p = none → Q (.ref p) (upd H p (SetSO P w p (putL [] (tsigns z))))
theorem cr_setTxt (hc : X.calm = true) : CallR X (.type "set") (rSetTxt X.prog X.w) := by
  intro pins s σ H vs us Q I r h
  obtain ⟨z, rfl, hb, q⟩ := h
  obtain ⟨u, rfl, t, rfl⟩ := vals1 r
  have hz1 : (s.heap.push (newO X.w)).objs.size = s.heap.objs.size + 1 := size_push' _ _
  have hls : (tsigns z).length = z.cps.size := by simp [tsigns]
  refine call_setG (I.ok.hd hc) (typeIs_str _ _ _) PySem.F.sub_str_set PySem.F.sub_str_frozenset (by decide) (iter_text (s := { s with heap := s.heap.push (newO X.w) }) (by show s.heap.objs.size ≠ (s.heap.push (newO X.w)).objs.size; rw [hz1]; omega)) (by rw [hls]; exact hb) fun h' tk x k => ?_
  exact ⟨.ref _, _, I.laid (t' := tk) k (Nat.le_refl _) (setSO_new x), rfl, q _ (I.hok.fresh (Nat.le_refl _))⟩
/-- set(l) of a list of texts -/
def rSetLT (K : PySem.W.Frag) (P : Program) (w : World) : List V → Hp → VK → Prop := fun vs H Q => ∃ a ks, vs = [.ref a] ∧ SqL K H a (ks.map V.str) ∧ ks.length + 1 < scanBound ∧ ∀ p, H p = none → Q (.ref p) (upd H p (SetSO P w p (putL [] ks)))
theorem each_texts : ∀ {ks : List Str} {us : List Value}, Vals (ks.map V.str) us → PySem.W.EachIs (fun v (k : Str) => ∃ t, v = .str k t) us ks
  | [], us, r => by
    cases r
    exact .nil
  | k :: ks, us, r => by
    cases r with
    | cons h t => exact .cons h (each_texts t)
theorem cr_setLT (hc : X.calm = true) : CallR X (.type "set") (rSetLT X.K X.prog X.w) := by
  intro pins s σ H vs us Q I r h
  obtain ⟨a, ks, rfl, hs, hb, q⟩ := h
  rw [Vals.ref1 r]
  obtain ⟨its, rv, hl, _⟩ := I.list hs
  have hl' := hl.isList
  have hlt : a < s.heap.objs.size := by
    obtain ⟨_, e, _⟩ := hl'
    exact Heap.lt_size e
  have hz1 : (s.heap.push (newO X.w)).objs.size = s.heap.objs.size + 1 := size_push' _ _
  refine call_setG (I.ok.hd hc) (hl'.push _).typeIs PySem.F.sub_list_set PySem.F.sub_list_frozenset (by decide) (iter_listT (s := { s with heap := s.heap.push (newO X.w) }) (hl'.push _) (each_texts rv) (by show s.heap.objs.size ≠ (s.heap.push (newO X.w)).objs.size; rw [hz1]; omega) (Nat.ne_of_gt hlt)) hb fun h' tk x k => ?_
  exact ⟨.ref _, _, I.laid (t' := tk) k (Nat.le_refl _) (setSO_new x), rfl, q _ (I.hok.fresh (Nat.le_refl _))⟩
/-- sorted(found) of a set of texts -/
def rSortedTx (P : Program) (w : World) : List V → Hp → VK → Prop := fun vs H Q => ∃ a l, vs = [.ref a] ∧ H a = some (SetSO P w a l) ∧
  ∀ (ys : List Str) p, ys.Perm l → ys.Nodup → ys.Pairwise (fun x y => leS x y = true) → H p = none → Q (.ref p) (upd H p (.lst (ys.map V.str)))
theorem elems_texts {P : Program} {w : World} : ∀ {es : List (Int × Value)}, ElemsOf (strKind P w) es → ∃ ks : List Str, PySem.W.EachIs (fun v (k : Str) => ∃ t, v = .str k t) (es.map (·.2)) ks
  | [], _ => ⟨[], .nil⟩
  | e :: es, h => by
    obtain ⟨⟨k, hk, _⟩, _⟩ := h e List.mem_cons_self
    obtain ⟨t, ht⟩ := Value.isStrOf_shape (x := k) (v := e.2) hk
    obtain ⟨ks, r⟩ := elems_texts (P := P) (w := w) (es := es) fun e' he => h e' (.tail _ he)
    exact ⟨k :: ks, .cons ⟨t, ht⟩ r⟩
theorem texts_mem {us : List Value} {ks : List Str} (r : PySem.W.EachIs (fun v (k : Str) => ∃ t, v = .str k t) us ks) : ∀ {v : Value} {k : Str}, v ∈ us → Value.isStrOf k v = true → k ∈ ks := by
  induction r with
  | nil => exact fun h => nomatch h
  | @cons av bk _ _ h1 _ ih =>
    intro v k hv hk
    rcases List.mem_cons.mp hv with e | hv
    · obtain ⟨t, e2⟩ := h1
      rw [e, e2] at hk
      obtain ⟨t2, e3⟩ := Value.isStrOf_shape (x := k) (v := .str bk t) hk
      injection e3 with e4 _
      rw [← e4]
      exact List.mem_cons_self
    · exact .tail _ (ih hv hk)
theorem vals_texts : ∀ {us : List Value} {ks : List Str}, PySem.W.EachIs (fun v (k : Str) => ∃ t, v = .str k t) us ks → Vals (ks.map V.str) us
  | _, _, .nil => .nil
  | _, _, .cons h t => .cons h (vals_texts t)
theorem cr_sortedTx (hc : X.calm = true) (hu : X.A.units + 64 < cLine) : CallR X (.builtin "sorted") (rSortedTx X.prog X.w) := by
  intro pins s σ H vs us Q I r h
  obtain ⟨a, l, rfl, ha, q⟩ := h
  rw [Vals.ref1 r]
  obtain ⟨⟨D, ho, F, nd, hb, hr, ld⟩, _⟩ : SetS X.prog X.w s.heap a l ∧ _ := I.hok a _ ha
  obtain ⟨ks, e⟩ := elems_texts F.el
  have hlen : ks.length = l.length := by
    rw [← e.length, List.length_map, Array.length_toList]
    exact F.sz
  have pk : ks.Perm l := perm_of_len nd (fun k hk => by
    obtain ⟨en, he, z⟩ := (F.mem k).mp hk
    exact texts_mem e (List.mem_map.mpr ⟨en, he, rfl⟩) z) hlen
  refine sorted_setG (enc := PyData.str) (R := fun v (k : Str) => ∃ t, v = .str k t) (I.ok.hd hc) ⟨_, ho, rfl, rfl⟩ F.fit (by rw [F.sz]; exact hb) hr ld (e.mono fun v k z => ⟨z, by obtain ⟨t, rfl⟩ := z; exact .str k t⟩)
    (PySem.W.AllAlike.of fun _ _ => by simp [PySem.W.alike]) (PySem.W.Sortable.others fun b => ⟨(fun z => nomatch z), fun _ z => nomatch z⟩) (fun b _ => by simp [PyData.depth]; omega) fun s' p out c bs' k g o hp hg pb eo => ?_
  have py : (bs'.mergeSort (PySem.W.dataLe false PyData.str)).Perm l := (List.mergeSort_perm _ _).trans (pb.trans pk)
  have hlo : ((bs'.mergeSort (PySem.W.dataLe false PyData.str)).map V.str).length ≤ sizeLine := by
    rw [List.length_map, py.length_eq]
    exact fits_of_scanBound hb
  have hn : H p = none := I.hok.fresh hp
  have e2 : s' = { s with heap := s'.heap, gens := s'.gens, drawn := s'.drawn, toks := s'.toks } := by
    cases s'
    cases s
    cases o
    rfl
  rw [e2]
  have J : Inv X pins σ (upd H p (.lst ((bs'.mergeSort (PySem.W.dataLe false PyData.str)).map V.str))) { s with heap := s'.heap, gens := s'.gens, drawn := s'.drawn, toks := s'.toks } :=
    I.call (ch := []) (Un.laid k hp hn) (I.hok.laid k hp ⟨hlo, out, c, vals_texts eo, hg⟩) (by rw [g]; exact I.bare) (fun _ z => nomatch z)
  refine ⟨.ref p, _, J, rfl, q _ p py (py.nodup_iff.mpr nd) ?_ hn⟩
  have le : PySem.W.dataLe false PyData.str = fun x y : Str => leS x y := PySem.W.dataLe_str (fun b : Str => b)
  rw [le]
  refine List.pairwise_mergeSort (fun x y z h1 h2 => ?_) (fun x y => ?_) bs'
  · simp only [leS, decide_eq_true_eq] at h1 h2 ⊢
    exact List.le_trans h1 h2
  · simp only [leS, Bool.or_eq_true, decide_eq_true_eq]
    exact List.le_total _ _
end
end Vk
set_option Elab.async false
set_option linter.all false
set_option maxRecDepth 100000
set_option maxHeartbeats 4000000
/-! Sets of tuples of ints and texts: made, asked, added to; sorted. -/
namespace Vt
open PySem PySem.Spec PyProof.Rows L2
/-- the tuple at a has the keys k -/
abbrev IsM (P : Program) (w : World) (h : Heap) (k : List Key) (a : Addr) : Prop := IsTupleKey (mixKind P w) h k a
abbrev mh (P : Program) (w : World) (k : List Key) : Int := tupleKeyHash (mixKind P w) k
def mRows (P : Program) (w : World) (L : List (Addr × List Key)) : List (Int × Value) := L.map fun p => (mh P w p.2, Value.ref p.1)
structure SetM (P : Program) (w : World) (h : Heap) (a : Addr) (L : List (Addr × List Key)) (es : Array (Int × Value)) (ep : Nat) (t : SetTable) : Prop where
  ob : ∃ o, h.get? a = some o ∧ o.ExactSet ∧ o.data = .set es ep t
  rows : es.toList = mRows P w L
  tab : Tab t (L.map fun p => mh P w p.2)
  nd : (L.map (·.2)).Nodup
  tup : ∀ p ∈ L, IsM P w h p.2 p.1
  led : w.params.followText "set-order" = true ∨ t.led = true
  room : L.length * 5 < t.mask * 3
  mm : t.mask = 7 ∨ t.mask = 31 ∨ t.mask = 127 ∨ t.mask = 511 ∨ t.mask = 2047 ∨ t.mask = 8191
  few : L.length ≤ 4000
section
variable {P : Program} {w : World} {A : Around} {E : Value → Shared → Prop} {s : Shared}
theorem items_mix {k : List Key} {vs : List Value} (h : ItemsAre (mixKind P w) k vs) : ∀ v ∈ vs, (∃ i t, v = Value.int i t) ∨ ∃ x t, v = Value.str x t := by
  induction h with
  | nil => exact fun v hv => nomatch hv
  | cons h1 _ ih =>
    intro v hv
    rcases List.mem_cons.mp hv with e | hv
    · rcases keyIs_shape h1 with ⟨i, t, _, e2⟩ | ⟨x, t, _, e2⟩
      · exact .inl ⟨i, t, e.trans e2⟩
      · exact .inr ⟨x, t, e.trans e2⟩
    · exact ih v hv
theorem cls_mix (n : Nat) {v : Value} (h : (∃ i t, v = Value.int i t) ∨ ∃ x t, v = Value.str x t) : ofAClassStatement n v = pure false := by
  rcases h with ⟨i, t, rfl⟩ | ⟨x, t, rfl⟩
  · cases n <;> rfl
  · cases n <;> rfl
theorem cls_tupM {k : List Key} {b : Addr} {Q : Bool → Shared → Prop} (hk : IsM P w s.heap k b) (h : Q false s) : wpAny (model P w) A (ofAClassStatement 8 (.ref b)) Q E s := by
  have ty := hk.typeIs
  obtain ⟨o, items, n, ho, _, hd, hi⟩ := hk
  unfold ofAClassStatement
  refine wpAny_bind (wpAny_typeOf ty ?_)
  dsimp only
  simp only [show (("tuple" : String) == "tuple") = true by decide, if_true, Bool.not_true, Bool.false_eq_true, if_false]
  try refine wpAny_bind (wpAny_pure ?_)
  try simp only [Bool.not_true, Bool.false_eq_true, if_false]
  show wpAny _ _ (seqItems? (.ref b) >>= _) _ _ s
  refine wpAny_bind (wpAny_seqItems ho hd ?_)
  dsimp only
  refine wpAny_bind ?_
  show wpAny _ _ (forIn items _ _) _ _ s
  rw [← Array.forIn_toList]
  refine wpAny_forIn_list _ (fun rest r s' => (r.1 = none ∧ s' = s) ∧ ∀ v ∈ rest, (∃ i t, v = Value.int i t) ∨ ∃ x t, v = Value.str x t) _ (fun v rest r s' z => ?_) (fun r s' z => ?_) _ _ ⟨⟨rfl, rfl⟩, items_mix hi⟩
  · obtain ⟨⟨z1, rfl⟩, z2⟩ := z
    rw [cls_mix _ (z2 v List.mem_cons_self)]
    refine wpAny_bind (wpAny_pure ?_)
    simp only [Bool.false_eq_true, if_false]
    exact wpAny_pure ⟨⟨rfl, rfl⟩, fun u hu => z2 u (.tail _ hu)⟩
  · obtain ⟨r1, r2⟩ := r
    obtain ⟨⟨z1, rfl⟩, _⟩ := z
    simp only at z1
    subst z1
    exact wpAny_pure h
theorem byval_mix {v : Value} (n : Nat) (h : (∃ i t, v = Value.int i t) ∨ ∃ x t, v = Value.str x t) : ∃ b, hashByValue n v = pure b := by
  rcases h with ⟨i, t, rfl⟩ | ⟨x, t, rfl⟩
  · exact ⟨true, by cases n <;> rfl⟩
  · exact ⟨false, by cases n <;> rfl⟩
theorem byval_tupM {k : List Key} {b : Addr} {Q : Bool → Shared → Prop} (hk : IsM P w s.heap k b) (h : ∀ r, Q r s) : wpAny (model P w) A (hashByValue 8 (.ref b)) Q E s := by
  have ty := hk.typeIs
  obtain ⟨o, items, n, ho, _, hd, hi⟩ := hk
  unfold hashByValue
  refine wpAny_bind (wpAny_specialOf ty PySem.F.slot_tuple_hash.lookup ?_)
  show wpAny _ _ (seqItems? (.ref b) >>= _) _ _ s
  refine wpAny_bind (wpAny_seqItems ho hd ?_)
  refine wpAny_bind ?_
  show wpAny _ _ (forIn items _ _) _ _ s
  rw [← Array.forIn_toList]
  refine wpAny_forIn_list _ (fun rest r s' => (r.1 = none ∧ s' = s) ∧ ∀ v ∈ rest, (∃ i t, v = Value.int i t) ∨ ∃ x t, v = Value.str x t) _ (fun v rest r s' z => ?_) (fun r s' z => ?_) _ _ ⟨⟨rfl, rfl⟩, items_mix hi⟩
  · obtain ⟨⟨z1, rfl⟩, z2⟩ := z
    obtain ⟨b, eb⟩ := byval_mix (v := v) 7 (z2 v List.mem_cons_self)
    rw [eb]
    refine wpAny_bind (wpAny_pure ?_)
    cases b with
    | true =>
      simp only [Bool.not_true, Bool.false_eq_true, if_false]
      exact wpAny_pure ⟨⟨rfl, rfl⟩, fun u hu => z2 u (.tail _ hu)⟩
    | false =>
      simp only [Bool.not_false, if_true]
      exact wpAny_pure (wpAny_pure (h false))
  · obtain ⟨r1, r2⟩ := r
    obtain ⟨⟨z1, rfl⟩, _⟩ := z
    simp only at z1
    subst z1
    exact wpAny_pure (h true)
theorem seen_M {k : List Key} {b : Addr} {Q : Bool → Shared → Prop} (hk : IsM P w s.heap k b) {ys : List Value} (hy : ∀ y ∈ ys, ∃ k' c, y = Value.ref c ∧ IsM P w s.heap k' c) (h : Q false s) : wpAny (model P w) A (searchCouldBeSeen (.ref b) ys) Q E s := by
  unfold searchCouldBeSeen
  refine wpAny_bind ?_
  refine wpAny_forIn_list _ (fun rest r s' => (r.1 = none ∧ s' = s) ∧ ∀ y ∈ rest, ∃ k' c, y = Value.ref c ∧ IsM P w s.heap k' c) _ (fun v rest r s' z => ?_) (fun r s' z => ?_) _ _ ⟨⟨rfl, rfl⟩, hy⟩
  · obtain ⟨⟨z1, rfl⟩, z2⟩ := z
    obtain ⟨k', c, rfl, hc⟩ := z2 v List.mem_cons_self
    have on : ∀ y ∈ rest, ∃ k' c, y = Value.ref c ∧ IsM P w s'.heap k' c := fun u hu => z2 u (.tail _ hu)
    dsimp only
    by_cases same : (b == c || (carriedByValue (.ref b) && carriedByValue (.ref c))) = true
    · exact wp_if_pos same (wpAny_pure ⟨⟨rfl, rfl⟩, on⟩)
    · refine wp_if_neg same (wpAny_bind (wpAny_eqIsQuiet_tuple hk ?_))
      simp only [Bool.not_true, Bool.false_eq_true, if_false]
      refine wpAny_bind (wpAny_eqIsQuiet_tuple hc ?_)
      simp only [Bool.not_true, Bool.false_eq_true, if_false]
      refine wpAny_bind (cls_tupM hk ?_)
      simp only [Bool.false_eq_true, if_false]
      refine wpAny_bind (cls_tupM hc ?_)
      simp only [Bool.false_eq_true, if_false]
      exact wpAny_pure ⟨⟨rfl, rfl⟩, on⟩
  · obtain ⟨r1, r2⟩ := r
    obtain ⟨⟨z1, rfl⟩, _⟩ := z
    simp only at z1
    subst z1
    exact wpAny_pure h
variable {a : Addr} {L : List (Addr × List Key)} {es : Array (Int × Value)} {ep : Nat} {t : SetTable}
theorem SetM.size (R : SetM P w s.heap a L es ep t) : es.size = L.length := by
  have h := congrArg List.length R.rows
  rw [mRows, List.length_map, Array.length_toList] at h
  exact h
theorem SetM.maskLe (R : SetM P w s.heap a L es ep t) : 7 ≤ t.mask ∧ t.mask ≤ 8191 := by
  rcases R.mm with e | e | e | e | e | e <;> omega
theorem SetM.fits (R : SetM P w s.heap a L es ep t) : t.fits es.size = true := by
  have h1 := R.tab.len
  rw [List.length_map] at h1
  have h2 := R.size
  have h3 := R.room
  rw [SetTable.fits, SetTable.fill, R.tab.cl, Bool.and_eq_true, beq_iff_eq, decide_eq_true_eq]
  show t.place.size = es.size ∧ t.place.size + 0 ≤ t.mask
  omega
theorem SetM.at (R : SetM P w s.heap a L es ep t) {i : Nat} {p : Addr × List Key} (h : L[i]? = some p) : es[i]? = some (mh P w p.2, Value.ref p.1) := by
  rw [← Array.getElem?_toList, R.rows, mRows, List.getElem?_map, h] <;> rfl
theorem SetM.way0 (R : SetM P w s.heap a L es ep t) : ¬ t.gaveWay = true := by
  rw [SetTable.gaveWay, R.tab.odd]
  decide
abbrev from0 (m : Nat) (h : Int) : SetTable.Probe := runAt m (SetTable.bits h % (m + 1)) (SetTable.bits h)
theorem nth_no (m : Nat) : ∀ (n : Nat) (p : SetTable.Probe), p.dummy = none → (nth m p n).dummy = none
  | 0, _, h => h
  | n + 1, p, h => nth_no m n _ (by unfold adv; split <;> exact h)
theorem search_m (R : SetM P w s.heap a L es ep t) {x : Addr} {k : List Key} (hx : IsM P w s.heap k x) (hu : A.units < cLine) {add : Bool} {H : Int} (hH : H = mh P w k) {K : Nat} (kf : K < 10 * SetTable.turns t.mask)
    (out : way t.mask H K ∉ t.place.toList) (ins : ∀ c, c < K → way t.mask H c ∈ t.place.toList) {Q : SetFound → Shared → Prop}
    (yes : k ∈ L.map (·.2) → ∀ o, (add = false → o.isSome = true) → Q (.there o) s) (no : k ∉ L.map (·.2) → Q (.free (way t.mask H K) false) s) :
    ∀ (f c : Nat) (stand : Option SetTable.Probe), stand.getD (t.probeStart H) = nth t.mask (from0 t.mask H) c → c ≤ K → K - c < f →
      (∀ (i : Nat) p, L[i]? = some p → p.2 = k → ∃ d, c ≤ d ∧ d < K ∧ t.place.toList[i]? = some (way t.mask H d)) → wpAny (model P w) A (setSearchFrom a (.ref x) H add f stand) Q E s
  | 0, _, _, _, _, hf, _ => absurd hf (Nat.not_lt_zero _)
  | f + 1, c, stand, hst, hc, hf, left => by
    obtain ⟨o, ho, hex, hd⟩ := R.ob
    rw [setSearchFrom_succ]
    refine wpAny_bind (wpAny_setState_of ho hd R.fits ?_)
    dsimp only
    refine wp_if_neg R.way0 ?_
    try refine wpAny_bind (wpAny_pure ?_)
    have sh : ∀ q, (nth t.mask (nth t.mask (from0 t.mask H) c) q).j = way t.mask H (c + q) := fun q => congrArg SetTable.Probe.j (nth_add t.mask c _ q).symm
    have hh : ∀ (i : Nat) p, L[i]? = some p → (es[i]?.map (·.1)).getD 0 = mh P w p.2 := fun i p hp => by rw [R.at hp] <;> rfl
    have spec := go_spec t R.tab.up R.tab.cl (fun i => (es[i]?.map (·.1)).getD 0) H (10 * SetTable.turns t.mask) (K - c) (nth t.mask (from0 t.mask H) c) (nth_no _ _ _ rfl) (by omega)
      (fun q hq => by rw [sh]; exact ins (c + q) (by omega)) (by rw [sh, show c + (K - c) = K by omega]; exact out)
    rcases spec with ⟨q, i, hq, hi, he, hno, pr⟩ | ⟨hno, pr⟩
    · have pr2 : t.probe (fun i => (es[i]?.map (·.1)).getD 0) H (stand.getD (t.probeStart H)) = some (.candidate (nth t.mask (nth t.mask (from0 t.mask H) c) q).j i (nth t.mask (nth t.mask (from0 t.mask H) c) (q + 1))) := by
        rw [hst]
        exact pr
      rw [pr2]
      dsimp only
      rw [sh] at hi
      have il : i < L.length := by
        have h1 := (List.getElem?_eq_some_iff.mp hi).1
        rw [Array.length_toList, R.tab.len, List.length_map] at h1
        exact h1
      obtain ⟨p, hp⟩ : ∃ p, L[i]? = some p := ⟨_, List.getElem?_eq_getElem il⟩
      have pm := List.mem_of_getElem? hp
      have rest : wpAny (model P w) A (searchRest a (.ref x) H add f es t (nth t.mask (nth t.mask (from0 t.mask H) c) q).j i (nth t.mask (nth t.mask (from0 t.mask H) c) (q + 1))) Q E s := by
        unfold searchRest
        rw [R.at hp]
        dsimp only
        refine wpAny_bind (wpAny_holding (wpAny_eqBool_tuple hu (R.tup p pm) hx ?_))
        refine wpAny_bind (wpAny_setState_of ho hd R.fits ?_)
        dsimp only
        rw [sh]
        have sl : t.slot (way t.mask H (c + q)) = .live i := slot_live R.tab.up hi
        by_cases kk : p.2 = k
        · have km : k ∈ L.map (·.2) := List.mem_map.mpr ⟨p, pm, kk⟩
          cases add with
          | true => exact wp_if_pos (by simp [kk]) (wpAny_pure (yes km _ fun z => nomatch z))
          | false =>
            refine wp_if_neg (by simp) ?_
            try refine wpAny_bind (wpAny_pure ?_)
            rw [sameMem]
            dsimp only
            simp only [if_true, sl, R.at hp]
            refine wpAny_bind (wpAny_isSame_ref_self (wpAny_bind (wpAny_pure ?_)))
            simp only [if_true]
            exact wp_if_pos (by simp [kk]) (wpAny_pure (yes km _ fun _ => rfl))
        · refine wp_if_neg (by simp [kk]) ?_
          try refine wpAny_bind (wpAny_pure ?_)
          rw [sameMem]
          dsimp only
          simp only [if_true, sl, R.at hp]
          refine wpAny_bind (wpAny_isSame_ref_self (wpAny_bind (wpAny_pure ?_)))
          simp only [if_true]
          refine wp_if_neg (by simp [kk]) ?_
          refine search_m R hx hu hH kf out ins yes no f (c + (q + 1)) _ (nth_add t.mask c _ (q + 1)).symm (by omega) (by omega) fun i0 p0 h0 k0 => ?_
          obtain ⟨d, d1, d2, d3⟩ := left i0 p0 h0 k0
          refine ⟨d, ?_, d2, d3⟩
          rcases Nat.lt_trichotomy d (c + q) with z | z | z
          · exact absurd ((hh i0 p0 h0).trans ((congrArg (mh P w) k0).trans hH.symm)) (hno (d - c) i0 (by omega) (by rw [sh, show c + (d - c) = d by omega]; exact d3))
          · rw [z] at d3
            have s0 := slot_live R.tab.up d3
            rw [sl] at s0
            injection s0 with s0
            rw [← s0, hp] at h0
            cases h0
            exact absurd k0 kk
          · omega
      by_cases hl : t.led = true
      · refine wp_if_neg (by simp [hl]) ?_
        try refine wpAny_bind (wpAny_pure ?_)
        exact rest
      · refine wp_if_pos (by simp [hl]) (wpAny_bind (seen_M hx (fun y hy => ?_) ?_))
        · obtain ⟨e, he2, rfl⟩ := List.mem_map.mp hy
          have e1 : e ∈ es ∧ e.1 = H := by simpa using he2
          have e2 : e ∈ es.toList := by simpa using e1.1
          rw [R.rows] at e2
          obtain ⟨p2, hp2, rfl⟩ := List.mem_map.mp e2
          exact ⟨p2.2, p2.1, rfl, R.tup p2 hp2⟩
        · refine wp_if_neg (by decide) ?_
          try refine wpAny_bind (wpAny_pure ?_)
          exact rest
    · have pr2 : t.probe (fun i => (es[i]?.map (·.1)).getD 0) H (stand.getD (t.probeStart H)) = some (.empty (nth t.mask (nth t.mask (from0 t.mask H) c) (K - c)).j none) := by
        rw [hst]
        exact pr
      rw [pr2]
      dsimp only
      rw [sh, show c + (K - c) = K by omega]
      refine wpAny_pure (no fun hm => ?_)
      obtain ⟨p0, h0, k0⟩ := List.mem_map.mp hm
      obtain ⟨i0, hi0, e0⟩ := List.getElem_of_mem h0
      have g0 : L[i0]? = some p0 := by rw [List.getElem?_eq_getElem hi0, e0]
      obtain ⟨d, d1, d2, d3⟩ := left i0 p0 g0 k0
      exact hno (d - c) i0 (by omega) (by rw [sh, show c + (d - c) = d by omega]; exact d3) ((hh i0 p0 g0).trans ((congrArg (mh P w) k0).trans hH.symm))
/-- a search, from its begin -/
theorem search_M (R : SetM P w s.heap a L es ep t) {x : Addr} {k : List Key} (hx : IsM P w s.heap k x) (hu : A.units < cLine) {add : Bool} {Q : SetFound → Shared → Prop}
    (yes : k ∈ L.map (·.2) → ∀ o, (add = false → o.isSome = true) → Q (.there o) s)
    (no : ∀ K, k ∉ L.map (·.2) → way t.mask (mh P w k) K ∉ t.place.toList → (∀ c, c < K → way t.mask (mh P w k) c ∈ t.place.toList) → Q (.free (way t.mask (mh P w k) K) false) s) :
    wpAny (model P w) A (setSearch a (.ref x) (mh P w k) add) Q E s := by
  have rm := R.room
  obtain ⟨m1, m2⟩ := R.maskLe
  obtain ⟨K, kf, out, ins⟩ := R.tab.gap (by rw [List.length_map]; omega) (mh P w k)
  have big : K < 100000 := by
    unfold SetTable.turns at kf
    omega
  unfold setSearch
  refine search_m R hx hu rfl kf out ins yes (fun z => no K z out ins) 100000 0 none rfl (Nat.zero_le _) (by omega) fun i p hp hk => ?_
  have hi : (L.map fun p => mh P w p.2)[i]? = some (mh P w k) := by rw [List.getElem?_map, hp, ← hk] <;> rfl
  have il : i < t.place.toList.length := by
    rw [Array.length_toList, R.tab.len, List.length_map]
    exact (List.getElem?_eq_some_iff.mp hp).1
  obtain ⟨d, hd, e⟩ := R.tab.ahead out hi (List.getElem?_eq_getElem il)
  exact ⟨d, Nat.zero_le _, hd, by rw [List.getElem?_eq_getElem il, e]⟩
/-- k in the set -/
theorem has_M (R : SetM P w s.heap a L es ep t) {x : Addr} {k : List Key} (hx : IsM P w s.heap k x) (hu : A.units < cLine) {Q : Bool → Shared → Prop} (h : ∀ tk b, (b = true ↔ k ∈ L.map (·.2)) → Q b { s with toks := tk }) :
    wpAny (model P w) A (setContains a (.ref x)) Q E s := by
  unfold setContains
  refine wpAny_holding (wpAny_bind (wpAny_pyHash_tuple hu hx ?_))
  obtain ⟨o, ho, hex, hd⟩ := R.ob
  unfold setFind setFindIn
  refine wpAny_bind ?_
  refine wpAny_bind (wpAny_setState_of (s := { s with toks := s.toks + (k.length + 1) }) ho hd R.fits ?_)
  dsimp only
  refine wp_if_neg (by simp [byScan, Value.scannable]) ?_
  try refine wpAny_bind (wpAny_pure ?_)
  refine wpAny_bind (search_M (s := { s with toks := s.toks + (k.length + 1) }) (add := false) R hx hu (fun hm o ok => ?_) fun K hm _ _ => ?_)
  · refine wpAny_pure (wpAny_pure ?_)
    have := h (s.toks + (k.length + 1)) true ⟨fun _ => hm, fun _ => rfl⟩
    rw [ok rfl]
    exact this
  · refine wpAny_pure (wpAny_pure ?_)
    exact h (s.toks + (k.length + 1)) false ⟨(fun z => nomatch z), fun z => absurd z hm⟩
theorem pick_rows (L : List (Addr × List Key)) (es : Array (Int × Value)) (hr : es.toList = mRows P w L) : ∀ l : List Nat, (∀ i ∈ l, i < L.length) → l.filterMap (fun i => es[i]?) = mRows P w (l.filterMap fun i => L[i]?) ∧
    ((l.filterMap fun i => L[i]?).map fun p => mh P w p.2) = l.map fun i => (es.map (·.1)).getD i 0
  | [], _ => ⟨rfl, rfl⟩
  | i :: l, h => by
    have hi := h i List.mem_cons_self
    obtain ⟨e1, e2⟩ := pick_rows L es hr l fun j hj => h j (.tail _ hj)
    have g : es[i]? = some (mh P w (L[i]).2, Value.ref (L[i]).1) := by
      rw [← Array.getElem?_toList, hr, mRows, List.getElem?_map, List.getElem?_eq_getElem hi] <;> rfl
    have g2 : (es.map (·.1)).getD i 0 = mh P w (L[i]).2 := by
      rw [Array.getD_eq_getD_getElem?, Array.getElem?_map, g] <;> rfl
    rw [List.filterMap_cons_some g, List.filterMap_cons_some (List.getElem?_eq_getElem hi), e1, List.map_cons, List.map_cons, e2, g2]
    exact ⟨rfl, rfl⟩
theorem pick_all {α : Type} (L : List α) : (List.range L.length).filterMap (fun i => L[i]?) = L := by
  have key : ∀ n, n ≤ L.length → (List.range n).filterMap (fun i => L[i]?) = L.take n := fun n => by
    induction n with
    | zero => exact fun _ => rfl
    | succ n ih =>
      intro hn
      rw [List.range_succ, List.filterMap_append, ih (by omega), List.filterMap_cons_some (List.getElem?_eq_getElem hn), List.take_add_one, List.getElem?_eq_getElem hn] <;> rfl
  have := key _ (Nat.le_refl _)
  rw [List.take_length] at this
  exact this
theorem isM_but {h h' : Heap} {k : List Key} {a b : Addr} {o : Obj} {es : Array (Int × Value)} {ep : Nat} {t : SetTable} (hb : IsM P w h k b) (ho : h.get? a = some o) (hd : o.data = .set es ep t) (hs : Heap.SameBut a h h') : IsM P w h' k b := by
  obtain ⟨ob, items, n, hob, hc, hdb, hi⟩ := hb
  refine ⟨ob, items, n, (hs.2 b fun z => ?_).trans hob, hc, hdb, hi⟩
  subst z
  rw [ho] at hob
  cases hob
  rw [hd] at hdb
  cases hdb
def Mk (m : Nat) : Prop := m = 7 ∨ m = 31 ∨ m = 127 ∨ m = 511 ∨ m = 2047 ∨ m = 8191
theorem pw_of {m : Nat} (h : Mk m) : Pw m := by
  rcases h with e | e | e | e | e | e
  · exact ⟨3, by decide, by rw [e]⟩
  · exact ⟨5, by decide, by rw [e]⟩
  · exact ⟨7, by decide, by rw [e]⟩
  · exact ⟨9, by decide, by rw [e]⟩
  · exact ⟨11, by decide, by rw [e]⟩
  · exact ⟨13, by decide, by rw [e]⟩
theorem relay_M {o : Obj} (ho : s.heap.get? a = some o) (hex : o.ExactSet) (hd : o.data = .set es ep t) (rows : es.toList = mRows P w L) (hsz : t.place.size = es.size) (hcl : t.dummies = #[]) (hfl : es.size ≤ t.mask)
    (nd : (L.map (·.2)).Nodup) (tup : ∀ p ∈ L, IsM P w s.heap p.2 p.1) (led : w.params.followText "set-order" = true ∨ t.led = true) (few : L.length ≤ 4000) {wanted M : Nat}
    (hw : SetTable.sizeAbove wanted - 1 = M) (hM : Mk M) (room : L.length * 5 < M * 3) {Q : Unit → Shared → Prop}
    (hQ : ∀ h' L' es' ep' t', Heap.SameBut a s.heap h' → SetM P w h' a L' es' ep' t' → L'.Perm L → Q () { s with heap := h' }) : wpAny (model P w) A (setRelay a wanted) Q E s := by
  have sl : es.size = L.length := by
    have h := congrArg List.length rows
    rw [mRows, List.length_map, Array.length_toList] at h
    exact h
  have fit : t.fits es.size = true := by
    rw [SetTable.fits, SetTable.fill, hcl, Bool.and_eq_true, beq_iff_eq, decide_eq_true_eq]
    show t.place.size = es.size ∧ t.place.size + 0 ≤ t.mask
    omega
  have M1 : M ≤ 8191 := by rcases hM with e | e | e | e | e | e <;> omega
  obtain ⟨t', ord, e, hp, T, em, el, ep1⟩ := relaid_tab t (hs := es.map (·.1)) (wanted := wanted) hw (pw_of hM) (by rw [Array.size_map, sl]; omega)
  rw [Array.size_map, sl] at hp
  obtain ⟨r1, r2⟩ := pick_rows (P := P) (w := w) L es rows ord.toList fun i hi => List.mem_range.mp (hp.mem_iff.mp hi)
  have pm : (ord.toList.filterMap fun i => L[i]?).Perm L := by
    have := hp.filterMap fun i => L[i]?
    rw [pick_all] at this
    exact this
  rw [← r2] at T
  have r3 : (ord.filterMap (es[·]?)).toList = mRows P w (ord.toList.filterMap fun i => L[i]?) := by
    rw [← r1]
    simp
  generalize (ord.toList.filterMap fun i => L[i]?) = L2 at T r3 pm
  have s2 : (ord.filterMap (es[·]?)).size = es.size := by
    have h := congrArg List.length r3
    rw [mRows, List.length_map, Array.length_toList, pm.length_eq] at h
    rw [h, sl]
  rw [setRelay_eq]
  refine wpAny_bind (wpAny_setState_of ho hd fit ?_)
  dsimp only
  refine wp_if_neg (by rw [sizeLine_eq]; omega) ?_
  try refine wpAny_bind (wpAny_pure ?_)
  rw [e]
  dsimp only
  refine wpAny_bind (wp_if_neg (by rw [s2]; simp) ?_)
  try refine wpAny_bind (wpAny_pure ?_)
  refine wpAny_pure ?_
  dsimp only
  refine wpAny_storeSet_of ho hd ?_ (by rw [s2, sl, sizeLine_eq]; omega)
  have sb : Heap.SameBut a s.heap (s.heap.update a (Obj.putSet (ord.filterMap (es[·]?)) t')) := Heap.SameBut.update ..
  exact hQ _ L2 (ord.filterMap (es[·]?)) (ep + 1) t' sb ⟨⟨_, store_at ho hd, ⟨hex.1, hex.2.1, hex.2.2⟩, rfl⟩, r3, T, (pm.map (·.2)).nodup_iff.mpr nd, fun p hpm => isM_but (tup p (pm.mem_iff.mp hpm)) ho hd sb, by rw [el]; exact led,
    by rw [pm.length_eq, em]; exact room, by rw [em]; exact hM, by rw [pm.length_eq]; exact few⟩ pm
/-- the table that comes when this one is full -/
theorem next_M {m n : Nat} (h : Mk m) (h1 : n * 5 < m * 3) (h2 : (n + 1) * 5 ≥ m * 3) (few : n + 1 ≤ 4000) : ∃ M, SetTable.sizeAbove (SetTable.grown (n + 1)) - 1 = M ∧ Mk M ∧ (n + 1) * 5 < M * 3 ∧ n + 1 ≤ m := by
  rcases h with e | e | e | e | e | e
  · obtain rfl : n = 4 := by omega
    exact ⟨31, by decide +kernel, .inr (.inl rfl), by decide, by omega⟩
  · obtain rfl : n = 18 := by omega
    exact ⟨127, by decide +kernel, .inr (.inr (.inl rfl)), by decide, by omega⟩
  · obtain rfl : n = 76 := by omega
    exact ⟨511, by decide +kernel, .inr (.inr (.inr (.inl rfl))), by decide, by omega⟩
  · obtain rfl : n = 306 := by omega
    exact ⟨2047, by decide +kernel, .inr (.inr (.inr (.inr (.inl rfl)))), by decide, by omega⟩
  · obtain rfl : n = 1228 := by omega
    exact ⟨8191, by decide +kernel, .inr (.inr (.inr (.inr (.inr rfl)))), by decide, by omega⟩
  · omega
/-- adding a tuple -/
theorem add_M (R : SetM P w s.heap a L es ep t) {x : Addr} {k : List Key} (hx : IsM P w s.heap k x) (hu : A.units < cLine) (few : L.length + 1 ≤ 4000) {Q : Bool → Shared → Prop}
    (hQ : ∀ b h' L' es' ep' t', Heap.SameBut a s.heap h' → SetM P w h' a L' es' ep' t' → (k ∈ L.map (·.2) → L' = L) → (k ∉ L.map (·.2) → L'.Perm ((x, k) :: L)) → Q b { s with heap := h' }) :
    wpAny (model P w) A (setAddHashed a (.ref x) (mh P w k)) Q E s := by
  obtain ⟨o, ho, hex, hd⟩ := R.ob
  have sl := R.size
  have rm := R.room
  unfold setAddHashed
  refine wpAny_holding ?_
  rw [show (100000 : Nat) = 99999 + 1 from rfl, setAddHashedIn_succ]
  refine wpAny_bind (wpAny_setState_of ho hd R.fits ?_)
  dsimp only
  refine wp_if_neg (by simp [byScan, Value.scannable]) ?_
  try refine wpAny_bind (wpAny_pure ?_)
  refine wpAny_bind (search_M (add := true) R hx hu (fun hm o' _ => ?_) fun K hm out ins => ?_)
  · dsimp only
    exact wpAny_pure (hQ false s.heap L es ep t (Heap.SameBut.refl a s.heap) R (fun _ => rfl) fun z => absurd hm z)
  · dsimp only
    refine wpAny_bind (wpAny_setState_of ho hd R.fits ?_)
    dsimp only
    obtain ⟨p, hp⟩ : ∃ p, p = SetTable.below t.place (way t.mask (mh P w k) K) := ⟨_, rfl⟩
    obtain ⟨q1, q2, q3⟩ := R.tab.put out ins hp
    have q0 : t.put (way t.mask (mh P w k) K) = ((t.put (way t.mask (mh P w k) K)).1, p) := by rw [hp] <;> rfl
    have q4 : (t.put (way t.mask (mh P w k) K)).1.mask = t.mask := rfl
    have q5 : (t.put (way t.mask (mh P w k) K)).1.led = t.led := rfl
    rw [q0]
    generalize (t.put (way t.mask (mh P w k) K)).1 = t1 at q2 q3 q4 q5 ⊢
    dsimp only
    have rows1 : (SetTable.insertAt es p (mh P w k, Value.ref x)).toList = mRows P w (L.take p ++ (x, k) :: L.drop p) := by
      rw [SetTable.toList_insertAt, R.rows, mRows, mRows, List.map_append, List.map_cons, List.map_take, List.map_drop]
    have pm : (L.take p ++ (x, k) :: L.drop p).Perm ((x, k) :: L) := by
      have z : (L.take p ++ (x, k) :: L.drop p).Perm ((x, k) :: (L.take p ++ L.drop p)) := List.perm_middle
      rw [List.take_append_drop] at z
      exact z
    have tab1 : Tab t1 ((L.take p ++ (x, k) :: L.drop p).map fun p => mh P w p.2) := by
      rw [List.map_append, List.map_cons, List.map_take, List.map_drop]
      exact q2
    have len1 : (L.take p ++ (x, k) :: L.drop p).length = L.length + 1 := pm.length_eq
    have nd1 : ((L.take p ++ (x, k) :: L.drop p).map (·.2)).Nodup := (pm.map (·.2)).nodup_iff.mpr (by rw [List.map_cons]; exact List.nodup_cons.mpr ⟨hm, R.nd⟩)
    have siz1 : (SetTable.insertAt es p (mh P w k, Value.ref x)).size = L.length + 1 := by
      have h := congrArg List.length rows1
      rw [mRows, List.length_map, Array.length_toList, len1] at h
      exact h
    generalize SetTable.insertAt es p (mh P w k, Value.ref x) = es1 at rows1 siz1 ⊢
    generalize L.take p ++ (x, k) :: L.drop p = L1 at rows1 pm tab1 len1 nd1
    have go : ∀ (t2 : SetTable), t2.place = t1.place → t2.dummies = t1.dummies → t2.mask = t1.mask → t2.led = t1.led →
        wpAny (model P w) A (do
          storeSet a es1 t2
          if !false && t2.tooFull then setRelay a (SetTable.grown (es.size + 1))
          return true) Q E s := by
      intro t2 e1 e2 e3 e4
      have tab2 : Tab t2 (L1.map fun p => mh P w p.2) := ⟨by rw [e1]; exact tab1.up, by rw [e2]; exact tab1.cl, by rw [e1]; exact tab1.len, by rw [e3]; exact tab1.pw, by rw [e1, e3]; exact tab1.top, by rw [e1, e3]; exact tab1.met⟩
      have fill2 : t2.fill = L.length + 1 := by
        have : t2.fill = t1.fill := by
          unfold SetTable.fill
          rw [e1, e2]
        rw [this, q3, List.length_map]
      refine wpAny_bind (wpAny_storeSet_of ho hd ?_ (by rw [siz1, sizeLine_eq]; omega))
      have sb : Heap.SameBut a s.heap (s.heap.update a (Obj.putSet es1 t2)) := Heap.SameBut.update ..
      have ho1 := store_at (es' := es1) (t' := t2) ho hd
      generalize s.heap.update a (Obj.putSet es1 t2) = h1 at sb ho1 ⊢
      have tup1 : ∀ p ∈ L1, IsM P w h1 p.2 p.1 := fun p hp => by
        rcases List.mem_cons.mp (pm.mem_iff.mp hp) with z | z
        · rw [z]; exact isM_but hx ho hd sb
        · exact isM_but (R.tup p z) ho hd sb
      have led1 : w.params.followText "set-order" = true ∨ t2.led = true := by rw [e4, q5]; exact R.led
      by_cases hf : t2.tooFull = true
      · have full : (L.length + 1) * 5 ≥ t.mask * 3 := by
          have h := hf
          rw [SetTable.tooFull, decide_eq_true_eq, fill2, e3, q4] at h
          exact h
        obtain ⟨M, y1, y2, y3, y4⟩ := next_M R.mm rm full few
        rw [sl]
        first
          | refine wp_if_pos (by simp [hf]) (wpAny_bind ?_)
          | refine wpAny_bind (wp_if_pos (by simp [hf]) ?_)
        refine relay_M (s := { s with heap := h1 }) ho1 ⟨hex.1, hex.2.1, hex.2.2⟩ rfl rows1 (by rw [siz1]; have := tab2.len; rw [List.length_map, len1] at this; exact this) tab2.cl (by rw [siz1, e3, q4]; exact y4) nd1 tup1 led1 (by rw [len1]; exact few) y1 y2 (by rw [len1]; exact y3) ?_
        intro h2 L2 es2 ep2 t3 sb2 R2 pm2
        exact wpAny_pure (hQ true h2 L2 es2 ep2 t3 (sb.trans sb2) R2 (fun z => absurd z hm) fun _ => pm2.trans pm)
      · have notFull : (L.length + 1) * 5 < t.mask * 3 := by
          have h := hf
          rw [SetTable.tooFull, decide_eq_true_eq, fill2, e3, q4] at h
          omega
        first
          | refine wp_if_neg (by simp [hf]) ?_
          | refine wpAny_bind (wp_if_neg (by simp [hf]) (wpAny_pure ?_))
        exact wpAny_pure (hQ true h1 L1 es1 (ep + 1) t2 sb ⟨⟨_, ho1, ⟨hex.1, hex.2.1, hex.2.2⟩, rfl⟩, rows1, tab2, nd1, tup1, led1, by rw [len1, e3, q4]; exact notFull, by rw [e3, q4]; exact R.mm, by rw [len1]; exact few⟩ (fun z => absurd z hm) fun _ => pm)
    by_cases hpl : t1.plain = true
    · first
        | (refine wpAny_bind ?_; refine wp_if_pos hpl ?_; refine byval_tupM hx fun r => ?_)
        | refine wp_if_pos hpl (wpAny_bind (byval_tupM hx fun r => ?_))
      cases r with
      | true =>
        simp only [if_true]
        exact go t1 rfl rfl rfl rfl
      | false =>
        simp only [Bool.false_eq_true, if_false]
        exact go _ rfl rfl rfl rfl
    · first
        | (refine wpAny_bind ?_; refine wp_if_neg hpl ?_; refine wpAny_pure ?_)
        | refine wp_if_neg hpl (wpAny_bind (wpAny_pure ?_))
      simp only [if_true]
      exact go t1 rfl rfl rfl rfl
end
end Vt
set_option Elab.async false
set_option linter.all false
set_option maxRecDepth 100000
set_option maxHeartbeats 4000000
/-! set(xs) of a list or a tuple of tuples; the hand layer's rules for sets of tuples of ints and texts. -/
namespace Vt
open PySem PySem.Spec PyProof.Rows L2 Vs
section
variable {P : Program} {w : World} {A : Around} {E : Value → Shared → Prop} {s : Shared}
theorem call_setX {x : Value} {T : String} {Post : Heap → Prop} {Q : Value → Shared → Prop} (hT : Shared.TypeIs { s with heap := s.heap.push (newO w) } x T) (n1 : isSubtype (.type T) (.type "set") = pure false)
    (n2 : isSubtype (.type T) (.type "frozenset") = pure false) (n3 : (Value.type T == Value.type "dict") = false)
    (body : ∀ (A1 : Around) (E1 R1 : Value → Shared → Prop), (A.handled = none → A1.in1.handled = none) → A1.in1.units ≤ A.units + 3 → (∀ (h' : Heap) (tk : Nat), Post h' → (∀ b o, s.heap.get? b = some o → h'.get? b = some o) → R1 .none { s with heap := h', toks := tk }) →
      wpAny (model P w) A1 (pyIter x) (fun it s2 => wpAny (model P w) A1 (runValue (.builtin "set.update.loop" ⟨[.ref s.heap.objs.size, it], []⟩)) R1 E1 s2) E1 { s with heap := s.heap.push (newO w) })
    (h : ∀ (h' : Heap) (tk : Nat), Post h' → (∀ b o, s.heap.get? b = some o → h'.get? b = some o) → Q (.ref s.heap.objs.size) { s with heap := h', toks := tk }) : wpAny (model P w) A (call (.type "set") [x]) Q E s := by
  obtain ⟨c, tl, mm⟩ := F.called_set.mro
  have made := F.called_set.made
  have sub := F.called_set.sub
  refine wpAny_call (codeAny_of_tree (?_))
  show wpAny _ _ (callAny (.type "set") ⟨[x], []⟩) _ _ _
  refine wpAny_pure ⟨Code.quiet_builtin _ (by decide +kernel), codeAny_builtin F.entry_type_call (?_)⟩
  rw [(Around.under_plain (weight_type_call_type "set" [x] []) rfl :)]
  have notT := F.called_set.notType
  have can := F.called_set.canCreate
  have tc := F.typeCall_set_1 x
  repeat (any_goals (first | assumption | wp_step))
  refine codeAny_mono (code_set_led1 x (E := E) (Q₁ := fun ob s1 => ob = .ref s.heap.objs.size ∧ s1 = { s with heap := s.heap.push (newO w) }) ⟨rfl, rfl⟩) fun r s1 hr => ?_
  cases r with
  | error e => exact hr
  | ok fl =>
    cases fl with
    | ret ob =>
      obtain ⟨rfl, rfl⟩ := hr
      have hS : (s.heap.push (newO w)).get? s.heap.objs.size = some (newO w) := Heap.get?_push_size _ rfl
      have hTS : Shared.TypeIs { s with heap := s.heap.push (newO w) } (.ref s.heap.objs.size) "set" := ⟨_, hS, rfl⟩
      have il := F.called_set.init.lookup
      have ib := F.called_set.init.bind (.ref s.heap.objs.size)
      repeat (any_goals (first | assumption | wp_step))
      refine codeAny_mono (codeAny_call_builtin (R := wants (fun r s2 => r = .none ∧ ∃ h' tk, s2 = { s with heap := h', toks := tk } ∧ Post h' ∧ (∀ b o, s.heap.get? b = some o → h'.get? b = some o)) E)
        F.called_set.init.plain F.entry_set_init (check_set_init_1 hTS ?_)) fun r2 s2 hr2 => ?_
      · unfold Builtin.«set.__init__» noKeywords Builtin.Frozenset.updateFrom
        generalize hPI : pyIter = PI
        wp_walk
        subst hPI
        refine wpAny_mono (body _ _ (fun v s' => v = .none ∧ ∃ h' tk, s' = { s with heap := h', toks := tk } ∧ Post h' ∧ (∀ b o, s.heap.get? b = some o → h'.get? b = some o)) (fun hh => by simp [hh]) (by show A.units + 1 + 1 + 1 ≤ A.units + 3; omega) fun h' tk y k => ⟨rfl, h', tk, rfl, y, k⟩)
          (fun it s' z => wpAny_bind (m := runValue _) (wpAny_mono z (fun v s'' q => ?_) fun _ _ e => e)) fun _ _ e => e
        obtain ⟨rfl, h', tk, rfl, y, k⟩ := q
        refine wpAny_pure ?_
        show wpAny _ _ (ret Value.none) _ _ _
        exact wpAny_pure ⟨rfl, h', tk, rfl, y, k⟩
      · cases r2 with
        | error e => exact hr2
        | ok f2 =>
          cases f2 with
          | ret r =>
            obtain ⟨rfl, h', tk, rfl, y, k⟩ := hr2
            repeat (any_goals (first | assumption | wp_step))
            exact h _ _ y k
          | _ => exact hr2.elim
    | _ => exact hr.elim
end
end Vt
set_option Elab.async false
set_option linter.all false
set_option maxRecDepth 100000
set_option maxHeartbeats 4000000
/-! The hand layer's rules for sets of tuples of ints and texts. -/
namespace Vt
open PySem PySem.Spec PyProof.Rows L2 Vs
/-- all but the members' own objects -/
structure SetC (P : Program) (w : World) (h : Heap) (a : Addr) (L : List (Addr × List Key)) (es : Array (Int × Value)) (ep : Nat) (t : SetTable) : Prop where
  ob : ∃ o, h.get? a = some o ∧ o.ExactSet ∧ o.data = .set es ep t
  rows : es.toList = mRows P w L
  tab : Tab t (L.map fun p => mh P w p.2)
  nd : (L.map (·.2)).Nodup
  led : w.params.followText "set-order" = true ∨ t.led = true
  room : L.length * 5 < t.mask * 3
  mm : t.mask = 7 ∨ t.mask = 31 ∨ t.mask = 127 ∨ t.mask = 511 ∨ t.mask = 2047 ∨ t.mask = 8191
  few : L.length ≤ 4000
section
variable {P : Program} {w : World} {A : Around} {E : Value → Shared → Prop} {s : Shared} {h h' : Heap} {a : Addr} {L : List (Addr × List Key)} {es : Array (Int × Value)} {ep : Nat} {t : SetTable}
theorem SetM.core (R : SetM P w h a L es ep t) : SetC P w h a L es ep t := ⟨R.ob, R.rows, R.tab, R.nd, R.led, R.room, R.mm, R.few⟩
theorem SetC.full (R : SetC P w h a L es ep t) (tup : ∀ p ∈ L, IsM P w h p.2 p.1) : SetM P w h a L es ep t := ⟨R.ob, R.rows, R.tab, R.nd, tup, R.led, R.room, R.mm, R.few⟩
theorem SetC.at (R : SetC P w h a L es ep t) (k : ∀ o, h.get? a = some o → h'.get? a = some o) : SetC P w h' a L es ep t := by
  obtain ⟨o, ho, r⟩ := R.ob
  exact ⟨⟨o, k o ho, r⟩, R.rows, R.tab, R.nd, R.led, R.room, R.mm, R.few⟩
theorem setC_new (ho : h.get? a = some (newO w)) : SetC P w h a [] #[] 0 (.fresh 0 0 (!w.params.followText "set-order")) where
  ob := ⟨_, ho, ⟨rfl, rfl, rfl⟩, rfl⟩
  rows := rfl
  tab := ⟨List.Pairwise.nil, rfl, rfl, ⟨3, by decide, rfl⟩, (fun y hy => by cases hy), fun i h j hi => by simp at hi⟩
  nd := List.nodup_nil
  led := by
    show _ ∨ (!w.params.followText "set-order") = true
    cases w.params.followText "set-order"
    · exact .inr rfl
    · exact .inl rfl
  room := by
    show 0 * 5 < 7 * 3
    decide
  mm := .inl rfl
  few := Nat.zero_le _
theorem isM_keep {k : List Key} {b : Addr} (x : IsM P w h k b) (hk : ∀ c o, h.get? c = some o → h'.get? c = some o) : IsM P w h' k b := by
  obtain ⟨o, items, n, ho, r⟩ := x
  exact ⟨o, items, n, hk b o ho, r⟩
/-- what is in the set of the first i -/
structure Of (ks : List (Addr × List Key)) (i : Nat) (L : List (Addr × List Key)) : Prop where
  sub : ∀ p ∈ L, p ∈ ks.take i
  all : ∀ p ∈ ks.take i, p.2 ∈ L.map (·.2)
  len : L.length ≤ i
theorem Of.more {ks L L' : List (Addr × List Key)} {i : Nat} {x : Addr × List Key} (g : Of ks i L) (h : ks[i]? = some x) (c1 : x.2 ∈ L.map (·.2) → L' = L) (c2 : x.2 ∉ L.map (·.2) → L'.Perm ((x.1, x.2) :: L)) : Of ks (i + 1) L' := by
  have tk : ks.take (i + 1) = ks.take i ++ [x] := by rw [List.take_add_one, h] <;> rfl
  rcases Classical.em (x.2 ∈ L.map (·.2)) with c | c
  · rw [c1 c]
    refine ⟨fun p hp => by rw [tk]; exact List.mem_append_left _ (g.sub p hp), fun p hp => ?_, Nat.le_succ_of_le g.len⟩
    rw [tk] at hp
    rcases List.mem_append.mp hp with z | z
    · exact g.all p z
    · rw [List.mem_singleton.mp z]; exact c
  · have pm := c2 c
    refine ⟨fun p hp => ?_, fun p hp => ?_, by rw [pm.length_eq, List.length_cons]; exact Nat.succ_le_succ g.len⟩
    · rw [tk]
      rcases List.mem_cons.mp (pm.mem_iff.mp hp) with e | z
      · exact List.mem_append_right _ (List.mem_singleton.mpr e)
      · exact List.mem_append_left _ (g.sub p z)
    · rw [(pm.map (·.2)).mem_iff, List.map_cons]
      rw [tk] at hp
      rcases List.mem_append.mp hp with z | z
      · exact .tail _ (g.all p z)
      · rw [List.mem_singleton.mp z]; exact List.mem_cons_self
theorem update_tups {R : Result → Shared → Prop} {I : Addr} {fp wr : List Addr} {G : Array GenState → Array GenState → Prop} {n : Nat} {Pv : Nat → Value → Prop} {St : Nat → Shared → Prop} (W : WalksS P w A.in1 I fp wr G n Pv St) (S : Addr) (hS : S ∉ fp)
    (ks : List (Addr × List Key)) (hn : n = ks.length) (few : ks.length ≤ 4000) (hv : ∀ i v, Pv i v → ∃ p, ks[i]? = some p ∧ v = .ref p.1) (h0 : Heap) (hk : ∀ p ∈ ks, IsM P w h0 p.2 p.1) (hS0 : h0.get? S = none) (hw0 : ∀ b ∈ wr, h0.get? b = none) (hu : A.in1.units < cLine) :
    ∀ (m i : Nat) (s : Shared) (L : List (Addr × List Key)) (es : Array (Int × Value)) (ep : Nat) (t : SetTable), n - i = m → i ≤ n → St i s → (∀ b o, h0.get? b = some o → s.heap.get? b = some o) → SetC P w s.heap S L es ep t → Of ks i L →
      (∀ s' L es ep t, Moved (S :: wr) G s s' → SetC P w s'.heap S L es ep t → Of ks n L → R (.ok (.ret .none)) s') → codeAny (model P w) A (.builtin "set.update.loop" ⟨[.ref S, .ref I], []⟩) R s := by
  have hw : S ∉ wr := fun h => hS (W.sub _ h)
  have up : ∀ b ∈ wr, b ∈ S :: wr := fun b hb => .tail _ hb
  have on : ∀ {s s' : Shared}, Moved wr G s s' → (∀ b o, h0.get? b = some o → s.heap.get? b = some o) → ∀ b o, h0.get? b = some o → s'.heap.get? b = some o := fun mv k b o e =>
    mv.heap b o (fun hb => by rw [hw0 b hb] at e; cases e) (k b o e)
  intro m
  induction m with
  | zero =>
    intro i s L es ep t hm hi st kp C g fin
    obtain rfl : i = n := by omega
    refine codeAny_builtin F.entry_set_update_loop (?_)
    rw [(Around.under_plainId F.plain_set_update_loop _ :)]
    show wpAny _ A.in1 (pyNext (.ref I) >>= _) _ _ s
    exact wpAny_bind (W.done s _ _ st fun s' mv => wpAny_pure (fin s' L es ep t (mv.mono up) (C.at fun o e => mv.heap S o hw e) g))
  | succ m ih =>
    intro i s L es ep t hm hi st kp C g fin
    have hlt : i < n := by omega
    refine codeAny_builtin F.entry_set_update_loop (?_)
    rw [(Around.under_plainId F.plain_set_update_loop _ :)]
    show wpAny _ A.in1 (pyNext (.ref I) >>= _) _ _ s
    refine wpAny_bind (W.item i s _ _ hlt st fun v s' pv st' mv => ?_)
    obtain ⟨p, hp, rfl⟩ := hv i v pv
    have kp' := on mv kp
    have pk : ∀ q ∈ L, q ∈ ks := fun q hq => List.mem_of_mem_take (g.sub q hq)
    have M' : SetM P w s'.heap S L es ep t := (C.at fun o e => mv.heap S o hw e).full fun q hq => isM_keep (hk q (pk q hq)) kp'
    have hx : IsM P w s'.heap p.2 p.1 := isM_keep (hk p (List.mem_of_getElem? hp)) kp'
    show wpAny _ A.in1 (holding [Value.ref p.1] (setAdd S (.ref p.1)) >>= _) _ _ s'
    refine wpAny_bind (wpAny_holding ?_)
    unfold setAdd
    refine wpAny_holding (wpAny_bind (wpAny_pyHash_tuple hu hx ?_))
    refine add_M (s := { s' with toks := s'.toks + (p.2.length + 1) }) M' hx hu (by have := g.len; omega) fun b h' L' es' ep' t' sb M2 c1 c2 => ?_
    have keep : ∀ b o, b ≠ S → s'.heap.get? b = some o → h'.get? b = some o := fun b o hb e => (sb.2 b hb).trans e
    refine wpAny_pure ⟨plainId_quiet F.plain_set_update_loop _, ih (i + 1) _ L' es' ep' t' (by omega) hlt (W.frame _ s' _ _ st' (Nat.le_add_right _ _) fun b hb o e => keep b o (fun y => hS (y ▸ hb)) e)
      (fun b o e => keep b o (fun z => by rw [z, hS0] at e; cases e) (kp' b o e)) M2.core (g.more hp c1 c2) fun s2 L2 es2 ep2 t2 m2 C2 g2 => ?_⟩
    exact fin s2 L2 es2 ep2 t2 (Moved.trans W.gtrans ((mv.mono up).then_heap (Nat.le_add_right _ _) fun b o hb e => keep b o (fun y => hb (y ▸ List.mem_cons_self)) e) m2) C2 g2
theorem none_above {h : Heap} {b : Addr} (hb : h.objs.size ≤ b) : h.get? b = none := by
  cases q : h.get? b with
  | none => rfl
  | some o => exact absurd (Heap.lt_size q) (Nat.not_lt_of_le hb)
/-- set(l) of a tuple or a list of tuples -/
theorem call_setM {l : Addr} {ks : List (Addr × List Key)} {items : List Value} {Q : Value → Shared → Prop} (hh : A.handled = none) (hl : s.heap.IsTuple l items.toArray ∨ s.heap.IsList l items.toArray) (hit : items = ks.map fun p => Value.ref p.1)
    (hk : ∀ p ∈ ks, IsM P w s.heap p.2 p.1) (few : ks.length ≤ 4000) (hu : A.units + 3 < cLine)
    (h : ∀ (h' : Heap) (tk : Nat) L es ep t, SetC P w h' s.heap.objs.size L es ep t → Of ks ks.length L → (∀ b o, s.heap.get? b = some o → h'.get? b = some o) → Q (.ref s.heap.objs.size) { s with heap := h', toks := tk }) :
    wpAny (model P w) A (call (.type "set") [.ref l]) Q E s := by
  have hz1 : (s.heap.push (newO w)).objs.size = s.heap.objs.size + 1 := size_push' _ _
  have hS : (s.heap.push (newO w)).get? s.heap.objs.size = some (newO w) := Heap.get?_push_size _ rfl
  have isz : items.toArray.size = ks.length := by rw [List.size_toArray, hit, List.length_map]
  have val : ∀ (i : Nat) (v : Value), items.toArray[i]? = some v → ∃ p, ks[i]? = some p ∧ v = .ref p.1 := fun i v e => by
    have e1 : items[i]? = some v := by rw [← e]; simp
    rw [hit, List.getElem?_map] at e1
    obtain ⟨p, hp, rfl⟩ := Option.map_eq_some_iff.mp e1
    exact ⟨p, hp, rfl⟩
  have old2 : ∀ (o2 : Obj) b o, s.heap.get? b = some o → ((s.heap.push (newO w)).push o2).get? b = some o := fun o2 b o e => Heap.get?_push_of_some _ (Heap.get?_push_of_some _ e)
  have hlt : l < s.heap.objs.size := by
    rcases hl with ⟨_, e, _⟩ | ⟨_, e, _⟩
    · exact Heap.lt_size e
    · exact Heap.lt_size e
  have fin : ∀ (A1 : Around) (E1 R1 : Value → Shared → Prop), (A.handled = none → A1.in1.handled = none) → A1.in1.units ≤ A.units + 3 →
      (∀ (h' : Heap) (tk : Nat), (∃ L es ep t, SetC P w h' s.heap.objs.size L es ep t ∧ Of ks ks.length L) → (∀ b o, s.heap.get? b = some o → h'.get? b = some o) → R1 .none { s with heap := h', toks := tk }) →
      ∀ (o2 : Obj) (St : Nat → Shared → Prop), WalksS P w A1.in1 (s.heap.push (newO w)).objs.size [(s.heap.push (newO w)).objs.size, l] [(s.heap.push (newO w)).objs.size] (fun a b => b = a) items.toArray.size (fun i v => items.toArray[i]? = some v) St →
        St 0 { s with heap := (s.heap.push (newO w)).push o2 } → wpAny (model P w) A1 (runValue (.builtin "set.update.loop" ⟨[.ref s.heap.objs.size, .ref (s.heap.push (newO w)).objs.size], []⟩)) R1 E1 { s with heap := (s.heap.push (newO w)).push o2 } := by
    intro A1 E1 R1 h1 h2 q o2 St W st
    refine wpAny_runValue ?_
    have out : s.heap.objs.size ∉ [(s.heap.push (newO w)).objs.size, l] := fun z => by
      rcases List.mem_cons.mp z with z | z
      · exact absurd (z.trans hz1) (Nat.ne_of_lt (Nat.lt_succ_self _))
      · exact absurd (List.mem_singleton.mp z) (Nat.ne_of_gt hlt)
    refine update_tups W s.heap.objs.size out ks isz few val s.heap hk (none_above (Nat.le_refl _)) (fun b hb => none_above (by rw [List.mem_singleton.mp hb, hz1]; exact Nat.le_succ _)) (by omega) items.toArray.size 0 _ [] #[] 0 _ rfl (Nat.zero_le _) st (old2 o2)
      (setC_new (Heap.get?_push_of_some _ hS)) ⟨(fun p hp => by cases hp), (fun p hp => by simp at hp), Nat.le_refl _⟩ fun s' L es ep t mv C g => ?_
    obtain ⟨h', g2, d', tk', os'⟩ := s'
    obtain rfl : g2 = s.gens := mv.gens
    obtain rfl : d' = s.drawn := mv.drawn
    obtain rfl : os' = s.os := mv.os
    rw [isz] at g
    refine q h' tk' ⟨L, es, ep, t, C, g⟩ fun b o e => ?_
    have b0 : b < s.heap.objs.size := Heap.lt_size e
    refine mv.heap b o (fun z => ?_) (old2 o2 b o e)
    rcases List.mem_cons.mp z with z | z
    · exact absurd b0 (by rw [z]; exact Nat.lt_irrefl _)
    · have z2 : b = s.heap.objs.size + 1 := (List.mem_singleton.mp z).trans hz1
      exact absurd b0 (by rw [z2]; exact Nat.not_lt_of_le (Nat.le_succ _))
  have ne : l ≠ (s.heap.push (newO w)).objs.size := by rw [hz1]; exact Nat.ne_of_lt (Nat.lt_succ_of_lt hlt)
  rcases hl with hl | hl
  · have hl1 : (s.heap.push (newO w)).IsTuple l items.toArray := hl.push _
    refine call_setX (T := "tuple") (Post := fun h' => ∃ L es ep t, SetC P w h' s.heap.objs.size L es ep t ∧ Of ks ks.length L) hl1.typeIs PySem.F.sub_tuple_set PySem.F.sub_tuple_frozenset (by decide) (fun A1 E1 R1 h1 h2 q => ?_) fun h' tk ⟨L, es, ep, t, C, g⟩ k => h h' tk L es ep t C g k
    refine wpAny_pyIter_tuple hl1 ?_
    exact fin A1 E1 R1 h1 h2 q _ _ (Walks.tuple (h1 hh) _ l ne items.toArray).toS ⟨⟨_, Heap.get?_push_size _ rfl, rfl, rfl⟩, hl1.push _⟩
  · have hl1 : (s.heap.push (newO w)).IsList l items.toArray := hl.push _
    refine call_setX (T := "list") (Post := fun h' => ∃ L es ep t, SetC P w h' s.heap.objs.size L es ep t ∧ Of ks ks.length L) hl1.typeIs PySem.F.sub_list_set PySem.F.sub_list_frozenset (by decide) (fun A1 E1 R1 h1 h2 q => ?_) fun h' tk ⟨L, es, ep, t, C, g⟩ k => h h' tk L es ep t C g k
    refine wpAny_pyIter_list hl1 ?_
    exact fin A1 E1 R1 h1 h2 q _ _ (Walks.list (h1 hh) _ l ne items.toArray).toS ⟨⟨_, Heap.get?_push_size _ rfl, rfl, rfl⟩, hl1.push _⟩
end
end Vt
set_option Elab.async false
set_option linter.all false
set_option maxRecDepth 100000
set_option maxHeartbeats 4000000
/-! The hand layer's rules: sets of tuples of ints and texts. -/
namespace Vk
open PySem PySem.Spec PyProof.Rows L2 Vs Vt
def SetMO (P : Program) (w : World) (a : Addr) (L : List (Addr × List Key)) : HO := .ext fun h => ∃ es ep t, SetC P w h a L es ep t
section
variable {P : Program} {w : World} {H : Hp} {h h' : Heap} {a : Addr} {L : List (Addr × List Key)}
theorem setMO_new {es : Array (Int × Value)} {ep : Nat} {t : SetTable} (C : SetC P w h a L es ep t) : ObjOk P w H h a (SetMO P w a L) := by
  have ⟨o, ho, _⟩ := C.ob
  exact ⟨⟨es, ep, t, C⟩, ⟨o, ho⟩, fun h1 h2 ⟨es, ep, t, C⟩ k => ⟨es, ep, t, C.at k⟩⟩
end
section
variable {X : Cx} {pins : List (Addr × Obj)} {s : Shared} {σ : L2.St} {H : Hp}
theorem isM_of (I : Inv X pins σ H s) {q : Addr} {k : List Key} (h : SqT X.K H q (k.map kV)) : IsM X.prog X.w s.heap k q := by
  obtain ⟨its, r, ⟨o, ho, hc, n, hd⟩, _⟩ := I.tuple h
  exact ⟨o, its.toArray, n, ho, hc, hd, items_are r⟩
theorem setM_of (I : Inv X pins σ H s) {a : Addr} {L : List (Addr × List Key)} (ha : H a = some (SetMO X.prog X.w a L)) (tup : ∀ p ∈ L, SqT X.K H p.1 (p.2.map kV)) : ∃ es ep t, SetM X.prog X.w s.heap a L es ep t := by
  obtain ⟨⟨es, ep, t, C⟩, _⟩ : (∃ es ep t, SetC X.prog X.w s.heap a L es ep t) ∧ _ := I.hok a _ ha
  exact ⟨es, ep, t, C.full fun p hp => isM_of I (tup p hp)⟩
/-- set() -/
def rSet0M (P : Program) (w : World) : List V → Hp → VK → Prop := fun vs H Q => vs = [] ∧ ∀ p, H p = none → Q (.ref p) (upd H p (SetMO P w p []))
theorem cr_set0M : CallR X (.type "set") (rSet0M X.prog X.w) := by
  intro pins s σ H vs us Q I r h
  obtain ⟨rfl, q⟩ := h
  cases r
  refine setR_new fun _ => ?_
  exact ⟨.ref _, _, I.laid (t' := s.toks) (fun b u e => Heap.get?_push_of_some _ e) (Nat.le_refl _) (setMO_new (setC_new (Heap.get?_push_size _ rfl))), rfl, q _ (I.hok.fresh (Nat.le_refl _))⟩
/-- set(xs) of a tuple or a list of such tuples -/
def rSetM (K : PySem.W.Frag) (P : Program) (w : World) : List V → Hp → VK → Prop := fun vs H Q => ∃ (l : Addr) (ks : List (Addr × List Key)), vs = [.ref l] ∧ (SqT K H l (ks.map fun p => V.ref p.1) ∨ SqL K H l (ks.map fun p => V.ref p.1)) ∧ (∀ p ∈ ks, SqT K H p.1 (p.2.map kV)) ∧ ks.length ≤ 4000 ∧
  ∀ a L, H a = none → (∀ p ∈ L, p ∈ ks) → (∀ p ∈ ks, p.2 ∈ L.map (·.2)) → (L.map (·.2)).Nodup → L.length ≤ 4000 → Q (.ref a) (upd H a (SetMO P w a L))
theorem refs_are : ∀ {ks : List (Addr × List Key)} {us : List Value}, Vals (ks.map fun p => V.ref p.1) us → us = ks.map fun p => Value.ref p.1
  | [], us, r => by
    cases r
    rfl
  | p :: ks, us, r => by
    cases r with
    | cons h t =>
      have e : _ = Value.ref p.1 := h
      rw [e, refs_are t] <;> rfl
theorem cr_setM (hc : X.calm = true) (hu : X.A.units + 64 < cLine) : CallR X (.type "set") (rSetM X.K X.prog X.w) := by
  intro pins s σ H vs us Q I r h
  obtain ⟨l, ks, rfl, hl, tup, few, q⟩ := h
  rw [Vals.ref1 r]
  have tp : ∀ p ∈ ks, IsM X.prog X.w s.heap p.2 p.1 := fun p hp => isM_of I (tup p hp)
  have go : ∀ items : List Value, (s.heap.IsTuple l items.toArray ∨ s.heap.IsList l items.toArray) → Vals (ks.map fun p => V.ref p.1) items → wpAny (model X.prog X.w) X.A (call (.type "set") [.ref l]) (EP X pins σ Q) X.xe s := by
    intro items hi rv
    refine call_setM (I.ok.hd hc) hi (refs_are rv) tp few (by omega) fun h' tk L es ep t C g k => ?_
    exact ⟨.ref _, _, I.laid (t' := tk) k (Nat.le_refl _) (setMO_new C), rfl, q _ L (I.hok.fresh (Nat.le_refl _)) (fun p hp => List.mem_of_mem_take (g.sub p hp)) (fun p hp => g.all p (by rw [List.take_length]; exact hp)) C.nd C.few⟩
  rcases hl with hl | hl
  · obtain ⟨its, rv, z, _⟩ := I.tuple hl
    exact go its (.inl z) rv
  · obtain ⟨its, rv, z, _⟩ := I.list hl
    exact go its (.inr z.isList) rv
/-- found.add(t) -/
def rAddM (K : PySem.W.Frag) (P : Program) (w : World) : V → List V → Hp → VK → Prop := fun x xs H Q => ∃ (a q : Addr) (k : List Key) (L : List (Addr × List Key)), x = .ref a ∧ xs = [.ref q] ∧ H a = some (SetMO P w a L) ∧ (∀ p ∈ L, SqT K H p.1 (p.2.map kV)) ∧ SqT K H q (k.map kV) ∧ L.length + 1 ≤ 4000 ∧
  ∀ L', (k ∈ L.map (·.2) → L' = L) → (k ∉ L.map (·.2) → L'.Perm ((q, k) :: L)) → Q .non (upd H a (SetMO P w a L'))
theorem mt_addM (hu : X.A.units + 64 < cLine) : MtR X "set.add" (rAddM X.K X.prog X.w) := by
  intro pins s σ H x xs v us Q I rx rxs h
  obtain ⟨a, q, k, L, rfl, rfl, ha, tup, hq, few, fin⟩ := h
  cases rx
  rw [Vals.ref1 rxs]
  obtain ⟨es, ep, t, R⟩ := setM_of I ha tup
  have hx := isM_of I hq
  obtain ⟨o, ho, hex, hd⟩ := R.ob
  have hT : s.TypeIs (.ref a) "set" := ⟨o, ho, hex.1⟩
  refine wpAny_call_entry PySem.F.slot_set_add hT PySem.F.entry_set_add ?_ (PySem.F.args_set_add_2 _ _)
  unfold Builtin.«set.add» Builtin.Frozenset.oneOther
  simp only [List.isEmpty_nil, bind_assoc]
  unfold Builtin.Frozenset.addrOf setAdd
  refine wpAny_bind (wpAny_pure ?_)
  try dsimp only
  refine wpAny_bind (wpAny_pure ?_)
  try dsimp only
  refine wpAny_bind (wpAny_holding (wpAny_bind (wpAny_pyHash_tuple (by show X.A.units + 1 < cLine; omega) hx ?_)))
  refine add_M (s := { s with toks := s.toks + (k.length + 1) }) R hx (by show X.A.units + 1 < cLine; omega) few fun b h' L' es' ep' t' sb R' c1 c2 => ?_
  show wpAny _ _ (ret Value.none) _ _ _
  refine wpAny_pure ⟨_, rfl, .non, upd H a (SetMO X.prog X.w a L'), ?_, rfl, fin L' c1 c2⟩
  have ⟨o', ho', _⟩ := R'.ob
  exact I.write (e := a) (t' := s.toks + (k.length + 1)) (by rw [ha]; trivial) (.inl rfl) (fun b u hb hu => (sb.2 b hb).trans hu) ⟨o', ho'⟩ (setMO_new R'.core)
def tAddM (K : PySem.W.Frag) (P : Program) (w : World) (to : TE) (t : TA) : TE := fun σ H Q => to σ H fun x H1 => (∃ a L, x = V.ref a ∧ H1 a = some (SetMO P w a L)) ∧ t σ H1 fun xs H2 => rAddM K P w x xs H2 Q
variable {o e : Expr} {es : List Expr} {to : TE} {t : TA} {apos cpos : Pos}
theorem pe_addM (hu : X.A.units + 64 < cLine) (ho : PE X o to) (ha : PA X (e :: es) t)
    (hbase : attributeBase o "add" X.env (eval o X.env) = eval o X.env := by rfl)
    (hfew : ((backTo cpos (starEach (e :: es) X.env)).all (fun x => !x.1) && (backToKw cpos (keywordEach [] X.env)).all (fun x => x.1.isSome) && decide ((e :: es).length + ([] : List Keyword).length + (if ([] : List Keyword).isEmpty then 0 else 1) < 30)) = true := by rfl)
    (hline : (apos.endLine == cpos.line) = true := by rfl) (hs : starEach (e :: es) X.env = (false, eval e X.env) :: starEach es X.env := by rfl) (hplain : (backTo cpos (starEach es X.env)).any (·.1) = false := by rfl) :
    PE X (.Call (.Attribute o "add" apos) (e :: es) [] cpos) (tAddM X.K X.prog X.w to t) := by
  refine ⟨fun pins s σ H Q I h => wpAny_Call_method_late hbase hfew hline rfl (thn (ho.run pins s σ H _ I h) fun v s1 ⟨x, H1, I1, r1, ⟨a, L, ex, hka⟩, q1⟩ => ?_)⟩
  subst ex
  cases r1
  obtain ⟨⟨es', ep, tt, C⟩, _⟩ : (∃ es ep t, SetC X.prog X.w s1.heap a L es ep t) ∧ _ := I1.hok a _ hka
  obtain ⟨ob, hob, hex, hd⟩ := C.ob
  refine ⟨"set", "set.add", PySem.F.plainAttrs_set, PySem.F.slot_set_add, PySem.F.type_set_add, ⟨ob, hob, hex.1⟩, (fun b e => by cases e; exact ⟨ob, hob, hex.2.1⟩), ?_⟩
  have hA := ha.run cpos pins s1 σ H1 _ I1 q1
  rw [hs] at hA ⊢
  refine Calls.callWith_builtin (by show (false || (backTo cpos (starEach es X.env)).any (·.1)) = false; rw [hplain] <;> rfl) (Calls.evalArgs_plain ?_)
  exact thn hA fun us s2 ⟨vs, H2, I2, r2, q2⟩ => mt_addM hu pins s2 σ H2 (.ref a) vs (.ref a) us Q I2 rfl r2 q2
/-- t in found, t not in found -/
def rInM (K : PySem.W.Frag) (P : Program) (w : World) (neg : Bool) : V → V → Hp → VK → Prop := fun x y H Q => ∃ (a q : Addr) (k : List Key) (L : List (Addr × List Key)), x = .ref q ∧ y = .ref a ∧ H a = some (SetMO P w a L) ∧ (∀ p ∈ L, SqT K H p.1 (p.2.map kV)) ∧ SqT K H q (k.map kV) ∧
  ∀ b : Bool, (b = true ↔ k ∈ L.map (·.2)) → Q (.bl (if neg then !b else b)) H
theorem contains_M {a q : Addr} {k : List Key} {L : List (Addr × List Key)} {es : Array (Int × Value)} {ep : Nat} {t : SetTable} {Q : Bool → Shared → Prop} {E : Value → Shared → Prop} (R : SetM X.prog X.w s.heap a L es ep t) (hx : IsM X.prog X.w s.heap k q) (hu : X.A.units + 64 < cLine)
    (h : ∀ tk b, (b = true ↔ k ∈ L.map (·.2)) → Q b { s with toks := tk }) : wpAny (model X.prog X.w) X.A (contains (.ref a) (.ref q)) Q E s := by
  obtain ⟨o, ho, hex, hd⟩ := R.ob
  have hT : s.TypeIs (.ref a) "set" := ⟨o, ho, hex.1⟩
  unfold contains
  try with_reducible refine wpAny_holding ?_
  refine wpAny_bind (wpAny_specialOf hT PySem.F.slot_set_contains.lookup ?_)
  show wpAny _ _ (if (some (Value.builtin "set.__contains__") == some Value.none) = true then _ else _) _ E s
  rw [if_neg (show ¬ ((some (Value.builtin "set.__contains__") == some Value.none) = true) by rw [beq_builtin_none]; exact Bool.false_ne_true)]
  refine wpAny_bind (wpAny_callSpecialUnlessNone?_slot (name := Str.ofString "__contains__") hT PySem.F.slot_set_contains (wpAny_call_entry PySem.F.slot_set_contains hT entry_set_contains ?_ (PySem.F.args_set_contains_2 _ _)))
  unfold Builtin.«frozenset.__contains__» Builtin.Frozenset.oneOther
  simp only [List.isEmpty_nil, bind_assoc]
  unfold Builtin.Frozenset.addrOf Builtin.Frozenset.withSetAsKey
  refine wpAny_bind (wpAny_pure ?_)
  try dsimp only
  refine wpAny_bind (wpAny_pure ?_)
  try dsimp only
  refine wpAny_bind (wpAny_tryCatch (has_M R hx (by show X.A.units + 1 < cLine; omega) fun tk b hb => ?_))
  show wpAny _ _ (ret (Value.bool b)) _ _ _
  exact wpAny_pure ⟨_, rfl, wpAny_truthy_bool (h tk b hb)⟩
theorem op_inM (hu : X.A.units + 64 < cLine) : OpR X (compareOp .In) (rInM X.K X.prog X.w false) := by
  intro pins s σ H x y v u Q I rx ry h
  obtain ⟨a, q, k, L, rfl, rfl, ha, tup, hq, fin⟩ := h
  cases rx
  cases ry
  obtain ⟨es, ep, t, R⟩ := setM_of I ha tup
  show wpAny _ _ (do return Value.bool (← contains (.ref a) (.ref q))) _ _ _
  exact wpAny_bind (contains_M R (isM_of I hq) hu fun tk b hb => wpAny_pure ⟨.bl b, H, I.tok _, rfl, fin b hb⟩)
theorem op_notInM (hu : X.A.units + 64 < cLine) : OpR X (compareOp .NotIn) (rInM X.K X.prog X.w true) := by
  intro pins s σ H x y v u Q I rx ry h
  obtain ⟨a, q, k, L, rfl, rfl, ha, tup, hq, fin⟩ := h
  cases rx
  cases ry
  obtain ⟨es, ep, t, R⟩ := setM_of I ha tup
  show wpAny _ _ (do return Value.bool (!(← contains (.ref a) (.ref q)))) _ _ _
  exact wpAny_bind (contains_M R (isM_of I hq) hu fun tk b hb => wpAny_pure ⟨.bl (!b), H, I.tok _, rfl, fin b hb⟩)
/-! sorted(found) -/
def encM (p : Addr × List Key) : PyData := .tuple (p.2.map keyD)
def leM (x y : Addr × List Key) : Bool := PySem.W.dataLe false encM x y
def rSortedM (K : PySem.W.Frag) (P : Program) (w : World) : List V → Hp → VK → Prop := fun vs H Q => ∃ (a : Addr) (L : List (Addr × List Key)), vs = [.ref a] ∧ H a = some (SetMO P w a L) ∧ (∀ p ∈ L, SqT K H p.1 (p.2.map kV)) ∧ PySem.W.AllAlike (L.map encM) ∧ (∀ p ∈ L, p.2 ≠ []) ∧
  ∀ (ys : List (Addr × List Key)) p, ys.Perm L → ys.Pairwise (fun x y => leM x y = true) → H p = none → Q (.ref p) (upd H p (.lst (ys.map fun q => V.ref q.1)))
theorem items_read {h : Heap} : ∀ {k : List Key} {vs : List Value}, ItemsAre (mixKind X.prog X.w) k vs → ReadsAll h vs (k.map keyD) []
  | _, _, .nil => .nil
  | _, _, .cons h1 t => ReadsAll.cons (as := []) (bs := []) (key_reads h1) (items_read t)
theorem isM_reads {h : Heap} {q : Addr} {k : List Key} (x : IsM X.prog X.w h k q) : Reads h (.ref q) (.tuple (k.map keyD)) [] := by
  obtain ⟨o, its, n, ho, hc, hd, hi⟩ := x
  have hd2 : o.data = .seq its.toList.toArray n := by rw [hd]
  exact Reads.tuple (vs := its) ho hc hd (items_read hi)
theorem depth_keys : ∀ k : List Key, PyData.depthAll (k.map keyD) = 0
  | [] => by simp [PyData.depthAll]
  | x :: k => by
    have e : (keyD x).depth = 0 := by cases x <;> simp [keyD, PyData.depth]
    rw [List.map_cons, PyData.depthAll, depth_keys k, e] <;> rfl
theorem each_rows : ∀ {L : List (Addr × List Key)} {es : List (Int × Value)}, es = mRows X.prog X.w L → ∀ {T : Value → Addr × List Key → Prop}, (∀ p ∈ L, T (.ref p.1) p) → PySem.W.EachIs T (es.map (·.2)) L
  | [], _, rfl, _, _ => .nil
  | p :: L, _, rfl, T, h => .cons (h p List.mem_cons_self) (each_rows (L := L) rfl fun q hq => h q (.tail _ hq))
theorem vals_refs : ∀ {us : List Value} {L : List (Addr × List Key)}, PySem.W.EachIs (fun v (p : Addr × List Key) => v = .ref p.1) us L → Vals (L.map fun q => V.ref q.1) us
  | _, _, .nil => .nil
  | _, _, .cons h t => .cons h (vals_refs t)
theorem cr_sortedM (hc : X.calm = true) (hu : X.A.units + 64 < cLine) : CallR X (.builtin "sorted") (rSortedM X.K X.prog X.w) := by
  intro pins s σ H vs us Q I r h
  obtain ⟨a, L, rfl, ha, tup, al, ne, q⟩ := h
  rw [Vals.ref1 r]
  obtain ⟨es, ep, t, R⟩ := setM_of I ha tup
  obtain ⟨o, ho, hex, hd⟩ := R.ob
  have few := R.few
  have dep : ∀ p : Addr × List Key, (encM p).depth ≤ 1 := fun p => by
    unfold encM
    rw [PyData.depth, depth_keys] <;> omega
  refine sorted_setG (enc := encM) (R := fun v (p : Addr × List Key) => v = .ref p.1) (bs := L) (I.ok.hd hc) ⟨o, ho, hex.1, hd⟩ R.fits (by rw [R.size]; unfold scanBound; omega) R.tab.up R.led (each_rows R.rows fun p hp => ⟨rfl, isM_reads (R.tup p hp)⟩) al
    (.inl fun d hd => ?_) (fun b _ => by have := dep b; omega) fun s' p out c bs' k g og hp hg pb eo => ?_
  · obtain ⟨p, hp, rfl⟩ := List.mem_map.mp hd
    cases z : p.2 with
    | nil => exact absurd z (ne p hp)
    | cons x k => exact ⟨keyD x, k.map keyD, by rw [encM, z, List.map_cons]⟩
  have py : (bs'.mergeSort (PySem.W.dataLe false encM)).Perm L := (List.mergeSort_perm _ _).trans pb
  have hlo : ((bs'.mergeSort (PySem.W.dataLe false encM)).map fun q => V.ref q.1).length ≤ sizeLine := by
    rw [List.length_map, py.length_eq, sizeLine_eq]
    omega
  have hn : H p = none := I.hok.fresh hp
  have e2 : s' = { s with heap := s'.heap, gens := s'.gens, drawn := s'.drawn, toks := s'.toks } := by
    cases s'
    cases s
    cases og
    rfl
  rw [e2]
  have J : Inv X pins σ (upd H p (.lst ((bs'.mergeSort (PySem.W.dataLe false encM)).map fun q => V.ref q.1))) { s with heap := s'.heap, gens := s'.gens, drawn := s'.drawn, toks := s'.toks } :=
    I.call (ch := []) (Un.laid k hp hn) (I.hok.laid k hp ⟨hlo, out, c, vals_refs eo, hg⟩) (by rw [g]; exact I.bare) (fun _ z => nomatch z)
  refine ⟨.ref p, _, J, rfl, q _ p py ?_ hn⟩
  have tot := PySem.W.sortLe_total (listOrd itemOrd) false fun b : Addr × List Key => PySem.W.keyToks (encM b)
  exact List.pairwise_mergeSort tot.trans (fun x y => by rw [Bool.or_eq_true]; exact tot.total x y) bs'
end
end Vk
set_option Elab.async false
set_option linter.all false
set_option maxRecDepth 100000
set_option maxHeartbeats 4000000
/-! Dict comprehensions whose keys are tuples of ints and texts. -/
namespace Vk
open PySem PySem.Spec PyProof.Rows L2
theorem dictSet_T {X : Cx} {pins : List (Addr × Obj)} {σ : L2.St} {H : Hp} {s : Shared} {E : Value → Shared → Prop} {D b : Addr} {kvs : List (List Key × V)} {k : List Key} {v : V} {u r : Value} {Q : Unit → Shared → Prop} (hu : X.A.units + 64 < cLine) (I : Inv X pins σ H s)
    (hD : H D = some (.dT kvs)) (hz : kvs.length < sizeLine) (hb : H b = some (.tup (k.map kV))) (ry : RelV (.ref b) u) (rv : RelV v r) (h : ∀ s', Inv X pins σ (upd H D (.dT (putK kvs k v))) s' → Q () s') : wpAny (model X.prog X.w) X.A (dictSet D u r) Q E s := by
  cases (show u = Value.ref b from ry)
  obtain ⟨z, nd, xs, rel, dd⟩ := dt_of I.hok hD
  have lx : xs.length ≤ sizeLine := by rw [← Paired.length rel]; exact z
  have ln : (putK kvs k v).length ≤ sizeLine := by have := length_putK kvs k v; omega
  refine wpAny_dictSet_heap (hsz := lx) (show X.A.units < cLine by omega) (key_of I.hok hb) dd fun h' d2 hs => h _ ?_
  obtain ⟨q, es, ep, hq, y2, y3, y4, _, y5⟩ := d2
  refine d_write I (by rw [hD]; trivial) hs ⟨q, hq⟩ ⟨ln, nd, _, (rel.put k hb rv).keeps fun c ys ec => ?_, q, es, ep, hq, y2, y3, y4, y5⟩
  rw [upd_ne (ne_of ec hD (fun z => nomatch z))]
  exact ec
section
variable {X : Cx}
def tDcT (wi : TI) (g : TG) (tt : TT) (tk tv : TE) (vs : List Nat) : TE := fun σ H Q => wi σ H fun J H1 => ∀ D, H1 D = none → ∃ W : Nat → Nat → Hp → Prop, (∃ m, W 0 m (upd H1 D (.dT []))) ∧ ∀ i m H, W i m H → (J.stop i H ∧ Q (.ref D) H) ∨ (J.go i H ∧ ∃ Nx : Hp → Prop, (∀ H', Nx H' → ∃ m', m' < m ∧ W (i + 1) m' H') ∧
  ∀ x H', J.yld i H x H' → g x (wipe σ vs) H' fun σ2 H2 => wipe σ2 vs = wipe σ vs ∧ tt σ2 H2 fun b H3 => if b = true then tk σ2 H3 fun y H4 => tv σ2 H4 fun z H5 => ∃ (kvs : List (List Key × V)) (k : List Key) (q : Addr), y = .ref q ∧ H5 q = some (.tup (k.map kV)) ∧ H5 D = some (.dT kvs) ∧ kvs.length < sizeLine ∧ Nx (upd H5 D (.dT (putK kvs k z))) else Nx H3)
theorem pe_dcT {kx vx tg iter : Expr} {ifs : List Expr} {scope : Scope} {own : List (Str × Nat)} {pos : Pos} {wi : TI} {g : TG} {tt : TT} {tk tv : TE} (hu : X.A.units + 64 < cLine) (hc : X.calm = true) (hN : X.N.Nodup) (hi : PI X tg iter wi) (ok : BlkOk X.N X.env.scope scope own)
    (hg : ∀ (s : Shared) (H : Hp) (C : Addr) (cl : List (Str × Addr)) (fp : List Addr), PG (X.blk s H scope (compEnvC scope cl C X.env) fp) tg g) (ht : ∀ (s : Shared) (H : Hp) (C : Addr) (cl : List (Str × Addr)) (fp : List Addr), PTs (X.blk s H scope (compEnvC scope cl C X.env) fp) ifs tt)
    (hk : ∀ (s : Shared) (H : Hp) (C : Addr) (cl : List (Str × Addr)) (fp : List Addr), PE (X.blk s H scope (compEnvC scope cl C X.env) fp) kx tk) (he : ∀ (s : Shared) (H : Hp) (C : Addr) (cl : List (Str × Addr)) (fp : List Addr), PE (X.blk s H scope (compEnvC scope cl C X.env) fp) vx tv)
    (hs : ∀ x, foldedSetIterable iter X.env x = pure x := by intro _; rfl) : PE X (.DictComp kx vx [⟨tg, iter, ifs, 0⟩] scope pos) (tDcT wi g tt tk tv (own.map (·.2))) := by
  refine ⟨fun pins s σ H Q I h => ?_⟩
  rw [arm_eval_DictComp]
  have free : ∀ y ∈ scope.names, y.2 = .free → ∃ c, X.env.cells.lookup y.1 = some c := fun y hy e => (ok.free y hy e).elim (fun z => I.ok.has _ (.inl z)) fun z => I.ok.has _ (.inr z)
  refine wpAny_comprehension_free rfl hs (closure_ok free) ok.kind (fun y hy e => by rw [ok.uniq y hy, e]) (thn (hi.run pins s σ H _ I h) fun xv s1 hx => thn hx fun itv s2 ⟨it, fp, tn, J, H2, e, I2, T, st2, f2, q⟩ => ?_)
  subst e
  refine wpAny_newObj_type (newEnv_comp ?_)
  obtain ⟨D, hD⟩ : ∃ D, D = s2.heap.objs.size := ⟨_, rfl⟩
  rw [← hD]
  have nD : H2 D = none := I2.hok.fresh (Nat.le_of_eq hD.symm)
  obtain ⟨W, ⟨m0, w0⟩, turn⟩ := q D nD
  obtain ⟨s3, e3⟩ : ∃ s3 : Shared, s3 = { s2 with heap := s2.heap.push { cls := .type "dict", data := .dict #[] } } := ⟨_, rfl⟩
  have I3 : Inv X pins σ (upd H2 D (.dT [])) s3 := by
    rw [e3]
    refine I2.laid (t' := s2.toks) (fun b o z => Heap.get?_push_of_some _ z) (Nat.le_of_eq hD.symm) ?_
    rw [hD]
    exact dt_empty s2.heap I2.big
  have p3 : s3.heap = s2.heap.push { cls := .type "dict", data := .dict #[] } := by rw [e3]
  have low : ∀ b ∈ fp, b < s2.heap.objs.size := fun b hb => by
    obtain ⟨o, z, _⟩ := T.obj _ _ st2 b hb
    exact Heap.lt_size z
  have f3 : ∀ b ∈ fp, FpOk X pins (upd H2 D (.dT [])) b ∧ b < s3.heap.objs.size := fun b hb => by
    have lb := low b hb
    refine ⟨⟨?_, (f2 b hb).2⟩, by rw [p3, Heap.size_push]; exact Nat.lt_succ_of_lt lb⟩
    rw [upd_ne (by rw [hD]; exact Nat.ne_of_lt lb)]
    exact (f2 b hb).1
  have st3 : tn 0 s3.heap := T.keep _ _ _ st2 fun b _ o z => by rw [p3]; exact Heap.get?_push_of_some _ z
  have I4 := block_start I3 ok hN f3
  obtain ⟨cl, ecl⟩ : ∃ cl, cl = cellsFrom (s3.heap.objs.size + 1) scope.names (cloFrom X.env.cells scope.names []) := ⟨_, rfl⟩
  have pg := hg s3 (upd H2 D (.dT [])) s3.heap.objs.size cl fp
  have pt := ht s3 (upd H2 D (.dT [])) s3.heap.objs.size cl fp
  have pk := hk s3 (upd H2 D (.dT [])) s3.heap.objs.size cl fp
  have pe := he s3 (upd H2 D (.dT [])) s3.heap.objs.size cl fp
  rw [← e3]
  rw [← ecl] at I4
  show codeAny _ _ (.compStart (.DictComp kx vx [⟨tg, iter, ifs, 0⟩] scope pos) 0 (.ref it) (.ref D) (compEnvC scope (cellsFrom (s3.heap.objs.size + 1) scope.names (cloFrom X.env.cells scope.names [])) s3.heap.objs.size X.env)) (compPost (model X.prog X.w) X.A X.xe none (EP X pins σ Q) (.ref D) s3.heap.objs.size) _
  rw [← ecl]
  have empt : ∀ b ∈ fp, (upd H2 D (.dT [])) b = none := fun b hb => (f3 b hb).1.1
  obtain ⟨ce, ece⟩ : ∃ ce, ce = compEnvC scope cl s3.heap.objs.size X.env := ⟨_, rfl⟩
  have lc : ce.locals = s3.heap.objs.size := by rw [ece] <;> rfl
  rw [← ece] at I4 pg pt pk pe ⊢
  obtain ⟨H3, eH⟩ : ∃ H3, H3 = upd H2 D (.dT []) := ⟨_, rfl⟩
  rw [← eH] at I3 I4 pg pt pk pe w0 empt f3
  obtain ⟨s4, e4⟩ : ∃ s4 : Shared, s4 = { s3 with heap := pushCells (s3.heap.push { cls := .type "dict", data := .dict #[] }) scope.names } := ⟨_, rfl⟩
  rw [← e4] at I4
  show codeAny _ _ _ _ { s3 with heap := pushCells (s3.heap.push { cls := .type "dict", data := .dict #[] }) scope.names }
  rw [← e4]
  have st4 : tn 0 s4.heap := T.keep _ _ _ st3 fun b _ o z => by rw [e4]; exact pushCells_keeps _ _ _ _ (Heap.get?_push_of_some _ z)
  have still : ∀ {σ' : L2.St} {H' : Hp} {s' : Shared}, Inv (X.blk s3 H3 scope ce fp) [] σ' H' s' → (∀ b ∈ fp, H' b = none) → ∀ b ∈ fp, FpOk (X.blk s3 H3 scope ce fp) [] H' b := fun {σ' H' s'} I' hn b hb =>
    ⟨hn b hb, (I'.ok.exf b hb).1, I'.ok.exfs b hb, .inl hb, fun x c z => (I'.ok.exf b hb).2 x c z, fun p hp => absurd (show p ∈ ([] : List (Addr × Obj)) ++ [] from hp) (by simp)⟩
  have loop : codeAny (model X.prog X.w) X.A (.compLoop (.DictComp kx vx [⟨tg, iter, ifs, 0⟩] scope pos) 0 (.ref it) (.ref D) ce) (compPost (model X.prog X.w) X.A X.xe none (EP X pins σ Q) (.ref D) s3.heap.objs.size) s4 := by
    refine compLoop_anyD (fun n s' => ∃ i H', Inv (X.blk s3 H3 scope ce fp) [] (wipe σ (own.map (·.2))) H' s' ∧ tn i s'.heap ∧ (∀ b ∈ fp, H' b = none) ∧ W i n H') (fun n s5 ⟨i, H5, I5, st5, n5, w5⟩ => ?_) m0 ⟨0, H3, I4, st4, empt, w0⟩
    rcases turn i n H5 w5 with ⟨stop, qq⟩ | ⟨go, Nx, hNx, step⟩
    · refine thnF (T.done (X.blk s3 H3 scope ce fp) rfl rfl rfl hc i [] s5 _ H5 (fun _ _ => False) I5 (still I5 n5) st5 stop) fun r s6 ⟨er, I6⟩ => ?_
      subst er
      have I7 : Inv X pins σ H5 s6 := I3.call' (ch := fp) I6.os I6.base I6.hok I6.bare fun b hb => ⟨(f3 b hb).1.2.2.2.1, (f3 b hb).1.2.1, (f3 b hb).1.2.2.2.2.1, (f3 b hb).1.2.2.2.2.2⟩
      have nC : H5 s3.heap.objs.size = none := by
        rw [← lc]
        exact I6.free
      obtain ⟨m, hn, _⟩ := I6.loc
      have hn2 : s6.heap.Ns s3.heap.objs.size m := by
        rw [← lc]
        exact hn
      refine ⟨m, hn2, fun h'' sb => ?_⟩
      obtain ⟨_, y1, _, y3, y4, y5⟩ := I3.fpOk (H' := H5) (Nat.le_refl _) nC
      exact ⟨.ref D, H5, I7.turned (t' := s6.toks) (fun b o hb z => (sb.2 b hb).trans z) nC y1 y3 y4 y5, rfl, qq⟩
    · refine thnF (T.item (X.blk s3 H3 scope ce fp) rfl rfl rfl hc i [] s5 _ H5 (fun _ _ => False) I5 (still I5 n5) st5 go) fun r s6 ⟨u, er, h6⟩ => ?_
      subst er
      refine thnF h6 fun _ s7 ⟨x, H7, I7, r7, y7, st7, n7⟩ => ?_
      refine thnF (pg.run _ s7 _ H7 x u _ (I7.pinned (still I7 n7) (T.obj _ _ st7)) r7 (step x H7 y7)) fun _ s8 ⟨σ8, H8, I8, hw8, q8⟩ => ?_
      refine thnF (pt.run _ s8 σ8 H8 _ I8 q8) fun b s9 ⟨H9, I9, q9⟩ => ?_
      have fin : ∀ {s' : Shared} {H' : Hp}, Inv (X.blk s3 H3 scope ce fp) ([] ++ pinsAt fp s7.heap) σ8 H' s' → Nx H' → ∃ m, m < n ∧ ∃ i H', Inv (X.blk s3 H3 scope ce fp) [] (wipe σ (own.map (·.2))) H' s' ∧ tn i s'.heap ∧ (∀ b ∈ fp, H' b = none) ∧ W i m H' := fun {s' H'} I' nx => by
        obtain ⟨m', lm, w'⟩ := hNx H' nx
        have pin : ∀ c ∈ fp, ∀ o, s7.heap.get? c = some o → s'.heap.get? c = some o ∧ H' c = none := fun c hc2 o z =>
          let y := I'.pin (c, o) (List.mem_append_right _ (List.mem_append_right _ (mem_pinsAt hc2 z)))
          ⟨y.1, y.2.1⟩
        have lw : (wipe σ (own.map (·.2))).length = σ8.length := by rw [← hw8, wipe_length]
        refine ⟨m', lm, i + 1, H', (I'.unpinned (pins := [])).weak lw (fun j v z => ?_), T.keep _ _ _ st7 fun c hc2 o z => (pin c hc2 o z).1, fun c hc2 => ?_, w'⟩
        · rw [← hw8] at z
          exact (wipe_some z).1
        · obtain ⟨o, z, _⟩ := T.obj _ _ st7 c hc2
          exact (pin c hc2 o z).2
      cases b with
      | false =>
        simp only [Bool.false_eq_true, if_false] at q9 ⊢
        exact fin I9 q9
      | true =>
        simp only [if_true] at q9 ⊢
        refine thnF (pk.run _ s9 σ8 H9 _ I9 q9) fun z s10 ⟨yk, H10, I10, r10, q10⟩ => ?_
        refine thnF (pe.run _ s10 σ8 H10 _ I10 q10) fun z2 s11 ⟨yv, H11, I11, r11, kvs, k, qa, ek, hq, hD11, hz, nx⟩ => ?_
        subst ek
        exact dictSet_T (X := X.blk s3 H3 scope ce fp) hu I11 hD11 hz hq r10 r11 fun s12 I12 => fin I12 nx
  exact codeAny_compStart_dict loop (T.self X.A 0 _ _ _ st4 loop)
/-- over a tuple that stays -/
theorem dcT_tup {K : PySem.W.Frag} {a : Addr} {xs : List V} {g : TG} {tt : TT} {tk tv : TE} {vs : List Nat} {σ : L2.St} {H1 : Hp} {D : Addr} {Qd : Hp → Prop} (Pv : Nat → Hp → Prop) (h0 : Pv 0 (upd H1 D (.dT []))) (hl : ∀ i H, i ≤ xs.length → Pv i H → SqT K H a xs)
    (step : ∀ i x H, xs[i]? = some x → Pv i H → g x (wipe σ vs) H fun σ2 H2 => wipe σ2 vs = wipe σ vs ∧ tt σ2 H2 fun b H3 => if b = true then tk σ2 H3 fun y H4 => tv σ2 H4 fun z H5 => ∃ (kvs : List (List Key × V)) (k : List Key) (q : Addr), y = .ref q ∧ H5 q = some (.tup (k.map kV)) ∧ H5 D = some (.dT kvs) ∧ kvs.length < sizeLine ∧ Pv (i + 1) (upd H5 D (.dT (putK kvs k z))) else Pv (i + 1) H3)
    (fin : ∀ H, Pv xs.length H → Qd H) :
    ∃ W : Nat → Nat → Hp → Prop, (∃ m, W 0 m (upd H1 D (.dT []))) ∧ ∀ i m H, W i m H → ((Itt K a).stop i H ∧ Qd H) ∨ ((Itt K a).go i H ∧ ∃ Nx : Hp → Prop, (∀ H', Nx H' → ∃ m', m' < m ∧ W (i + 1) m' H') ∧ ∀ x H', (Itt K a).yld i H x H' → g x (wipe σ vs) H' fun σ2 H2 => wipe σ2 vs = wipe σ vs ∧ tt σ2 H2 fun b H3 =>
      if b = true then tk σ2 H3 fun y H4 => tv σ2 H4 fun z H5 => ∃ (kvs : List (List Key × V)) (k : List Key) (q : Addr), y = .ref q ∧ H5 q = some (.tup (k.map kV)) ∧ H5 D = some (.dT kvs) ∧ kvs.length < sizeLine ∧ Nx (upd H5 D (.dT (putK kvs k z))) else Nx H3) := by
  refine ⟨fun i m H => m + i = xs.length ∧ Pv i H, ⟨xs.length, rfl, h0⟩, fun i m H ⟨em, p⟩ => ?_⟩
  have q := hl i H (by omega) p
  rcases Nat.lt_or_ge i xs.length with c | c
  · refine .inr ⟨⟨xs, xs[i], q, by simp [c]⟩, Pv (i + 1), fun H' p' => ⟨m - 1, by omega, by omega, p'⟩, fun x H' ⟨e, y⟩ => ?_⟩
    subst e
    exact step i x _ (y xs q) p
  · obtain rfl : i = xs.length := by omega
    exact .inl ⟨⟨xs, q, Nat.le_refl _⟩, fin H p⟩
end
end Vk
set_option Elab.async false
set_option linter.all false
set_option maxRecDepth 100000
set_option maxHeartbeats 4000000
/-! set(l) of a list of whole numbers, in the terms of the hand layer's sets of ints. -/
namespace Vt
open PySem PySem.Spec PyProof.Rows L2 Vs
theorem int_at : ∀ {ns : List Int} {us : List Value} {i : Nat} {u : Value}, Vals (ns.map V.int) us → us[i]? = some u → ∃ k tk, ns[i]? = some k ∧ u = .int k tk
  | [], _, i, u, .nil, h => by cases h
  | n :: ns, _, 0, u, .cons r t, h => by
    obtain ⟨tk, e⟩ := r
    rw [List.getElem?_cons_zero] at h
    exact ⟨n, tk, rfl, (Option.some.inj h).symm.trans e⟩
  | n :: ns, _, i + 1, u, .cons r t, h => by
    rw [List.getElem?_cons_succ] at h
    exact int_at (ns := ns) t h
section
variable {P : Program} {w : World} {A : Around} {E : Value → Shared → Prop} {s : Shared}
/-- the set at S has just the first i of ns -/
def OfI (w : World) (h : Heap) (S : Addr) (ns : List Int) (i : Nat) : Prop := ∃ (f : Int → Bool) (n : Nat), SetR w h S f n ∧ (∀ k, f k = true ↔ k ∈ ns.take i) ∧ n ≤ i
theorem update_ints {R : Result → Shared → Prop} {I : Addr} {fp wr : List Addr} {G : Array GenState → Array GenState → Prop} {n : Nat} {Pv : Nat → Value → Prop} {St : Nat → Shared → Prop} (W : WalksS P w A.in1 I fp wr G n Pv St) (S : Addr) (hS : S ∉ fp)
    (ns : List Int) (hn : n = ns.length) (few : ns.length ≤ 4000) (hv : ∀ i v, Pv i v → ∃ k tk, ns[i]? = some k ∧ v = .int k tk) :
    ∀ (m i : Nat) (s : Shared), n - i = m → i ≤ n → St i s → OfI w s.heap S ns i →
      (∀ s', Moved (S :: wr) G s s' → OfI w s'.heap S ns n → R (.ok (.ret .none)) s') → codeAny (model P w) A (.builtin "set.update.loop" ⟨[.ref S, .ref I], []⟩) R s := by
  have hw : S ∉ wr := fun h => hS (W.sub _ h)
  have up : ∀ b ∈ wr, b ∈ S :: wr := fun b hb => .tail _ hb
  intro m
  induction m with
  | zero =>
    intro i s hm hi st C fin
    obtain rfl : i = n := by omega
    refine codeAny_builtin F.entry_set_update_loop (?_)
    rw [(Around.under_plainId F.plain_set_update_loop _ :)]
    show wpAny _ A.in1 (pyNext (.ref I) >>= _) _ _ s
    refine wpAny_bind (W.done s _ _ st fun s' mv => wpAny_pure (fin s' (mv.mono up) ?_))
    obtain ⟨f, k, c1, c2⟩ := C
    exact ⟨f, k, c1.at fun o e => mv.heap S o hw e, c2⟩
  | succ m ih =>
    intro i s hm hi st C fin
    have hlt : i < n := by omega
    refine codeAny_builtin F.entry_set_update_loop (?_)
    rw [(Around.under_plainId F.plain_set_update_loop _ :)]
    show wpAny _ A.in1 (pyNext (.ref I) >>= _) _ _ s
    refine wpAny_bind (W.item i s _ _ hlt st fun v s' pv st' mv => ?_)
    obtain ⟨k, tk, hp, rfl⟩ := hv i v pv
    obtain ⟨f, q, c1, c2, c3⟩ := C
    have c1' := c1.at (h' := s'.heap) fun o e => mv.heap S o hw e
    show wpAny _ A.in1 (holding [Value.int k tk] (setAdd S (.int k tk)) >>= _) _ _ s'
    refine wpAny_bind (wpAny_holding ?_)
    unfold setAdd
    refine wpAny_holding (wpAny_bind ((intKind P w).pyHash (intKind_is P w k tk) ?_))
    refine setR_add_hashed (s := { s' with toks := s'.toks + 1 }) c1' (by unfold scanBound; omega) fun h' sb c1'' => ?_
    have keep : ∀ b o, b ≠ S → s'.heap.get? b = some o → h'.get? b = some o := fun b o hb e => (sb.2 b hb).trans e
    have tk1 : ns.take (i + 1) = ns.take i ++ [k] := by rw [List.take_add_one, hp] <;> rfl
    have next : OfI w h' S ns (i + 1) := by
      refine ⟨_, _, c1'', fun j => ?_, ?_⟩
      · rw [Bool.or_eq_true, c2 j, decide_eq_true_eq, tk1, List.mem_append, List.mem_singleton]
      · split <;> omega
    refine wpAny_pure ⟨plainId_quiet F.plain_set_update_loop _, ih (i + 1) _ (by omega) hlt (W.frame _ s' _ _ st' (Nat.le_add_right _ _) fun b hb o e => keep b o (fun y => hS (y ▸ hb)) e) next fun s2 m2 C2 => ?_⟩
    exact fin s2 (Moved.trans W.gtrans ((mv.mono up).then_heap (Nat.le_add_right _ _) fun b o hb e => keep b o (fun y => hb (y ▸ List.mem_cons_self)) e) m2) C2
theorem call_setI {l : Addr} {ns : List Int} {items : List Value} {Q : Value → Shared → Prop} (hh : A.handled = none) (hl : s.heap.IsList l items.toArray) (hit : Vals (ns.map V.int) items) (few : ns.length ≤ 4000) (hu : A.units + 3 < cLine)
    (h : ∀ (h' : Heap) (tk : Nat), OfI w h' s.heap.objs.size ns ns.length → (∀ b o, s.heap.get? b = some o → h'.get? b = some o) → Q (.ref s.heap.objs.size) { s with heap := h', toks := tk }) :
    wpAny (model P w) A (call (.type "set") [.ref l]) Q E s := by
  have hz1 : (s.heap.push (newO w)).objs.size = s.heap.objs.size + 1 := size_push' _ _
  have isz : items.toArray.size = ns.length := by rw [List.size_toArray, ← hit.length, List.length_map]
  have val : ∀ (i : Nat) (v : Value), items.toArray[i]? = some v → ∃ k tk, ns[i]? = some k ∧ v = .int k tk := fun i v e => by
    have e1 : items[i]? = some v := by rw [← e]; simp
    exact int_at hit e1
  have old2 : ∀ (o2 : Obj) b o, s.heap.get? b = some o → ((s.heap.push (newO w)).push o2).get? b = some o := fun o2 b o e => Heap.get?_push_of_some _ (Heap.get?_push_of_some _ e)
  have hlt : l < s.heap.objs.size := by
    obtain ⟨_, e, _⟩ := hl
    exact Heap.lt_size e
  have ne : l ≠ (s.heap.push (newO w)).objs.size := by rw [hz1]; exact Nat.ne_of_lt (Nat.lt_succ_of_lt hlt)
  have hl1 : (s.heap.push (newO w)).IsList l items.toArray := hl.push _
  refine call_setX (T := "list") (Post := fun h' => OfI w h' s.heap.objs.size ns ns.length) hl1.typeIs PySem.F.sub_list_set PySem.F.sub_list_frozenset (by decide) (fun A1 E1 R1 h1 h2 q => ?_) h
  refine wpAny_pyIter_list hl1 ?_
  refine wpAny_runValue ?_
  have out : s.heap.objs.size ∉ [(s.heap.push (newO w)).objs.size, l] := fun z => by
    rcases List.mem_cons.mp z with z | z
    · exact absurd (z.trans hz1) (Nat.ne_of_lt (Nat.lt_succ_self _))
    · exact absurd (List.mem_singleton.mp z) (Nat.ne_of_gt hlt)
  refine update_ints (Walks.list (h1 hh) _ l ne items.toArray).toS s.heap.objs.size out ns isz few val items.toArray.size 0 _ rfl (Nat.zero_le _) ⟨⟨_, Heap.get?_push_size _ rfl, rfl, rfl⟩, hl1.push _⟩ ⟨fun _ => false, 0, (setR_fresh w).at fun o e => Heap.get?_push_of_some _ e, fun k => by simp, Nat.le_refl _⟩ fun s' mv C => ?_
  obtain ⟨h', g2, d', tk', os'⟩ := s'
  obtain rfl : g2 = s.gens := mv.gens
  obtain rfl : d' = s.drawn := mv.drawn
  obtain rfl : os' = s.os := mv.os
  rw [isz] at C
  refine q h' tk' C fun b o e => ?_
  have b0 : b < s.heap.objs.size := Heap.lt_size e
  refine mv.heap b o (fun z => ?_) (old2 _ b o e)
  rcases List.mem_cons.mp z with z | z
  · exact absurd b0 (by rw [z]; exact Nat.lt_irrefl _)
  · have z2 : b = s.heap.objs.size + 1 := (List.mem_singleton.mp z).trans hz1
    exact absurd b0 (by rw [z2]; exact Nat.not_lt_of_le (Nat.le_succ _))
end
/-- set(l), l a list of ints -/
def rSetI (K : PySem.W.Frag) (w : World) : List V → Hp → VK → Prop := fun vs H Q => ∃ (l : Addr) (ns : List Int), vs = [.ref l] ∧ SqL K H l (ns.map V.int) ∧ ns.length ≤ 4000 ∧ ∀ (f : Int → Bool) (n : Nat) p, (∀ k, f k = true ↔ k ∈ ns) → n ≤ ns.length → H p = none → Q (.ref p) (upd H p (SetO w p f n))
theorem cr_setI {X : Cx} (hc : X.calm = true) (hu : X.A.units + 64 < cLine) : CallR X (.type "set") (rSetI X.K X.w) := by
  intro pins s σ H vs us Q I r h
  obtain ⟨l, ns, rfl, hl, few, q⟩ := h
  rw [Vals.ref1 r]
  obtain ⟨its, rv, z, _⟩ := I.list hl
  refine call_setI (I.ok.hd hc) z.isList rv few (by omega) fun h' tk ⟨f, n, C, cf, cn⟩ k => ?_
  rw [List.take_length] at cf
  exact ⟨.ref _, _, I.laid (t' := tk) k (Nat.le_refl _) (setO_new C), rfl, q f n _ cf cn (I.hok.fresh (Nat.le_refl _))⟩
end Vt
set_option Elab.async false
set_option linter.all false
/-! split by one sign takes a joined text apart again. -/
namespace Vs1
open PySem PySem.StrLaws Builtin Builtin.Str
theorem occ_go (x : Str) (c : Nat) : ∀ (n a : Nat) (st : Array Nat × Nat), a + n = x.length + 1 → st.snd ≤ a → st.fst.size ≤ a →
    (forIn (List.range' a n) st (occBody x ⟨#[c]⟩ x.length (x.length + 1))).run.fst.size = st.fst.size + (x.cps.toList.drop a).count c
  | 0, a, st, e, _, _ => by
    have d : x.cps.toList.drop a = [] := List.drop_of_length_le (by rw [Array.length_toList]; show x.length ≤ a; omega)
    rw [d]
    rfl
  | n + 1, a, st, e, h1, h2 => by
    rw [List.range'_succ, List.forIn_cons]
    unfold occBody
    have one := subAt_one x c a
    by_cases hc : x.cps.toList[a]? = some c
    · have q := one.mpr hc
      rw [if_pos ⟨⟨⟨by omega, h1⟩, q.1⟩, q.2⟩]
      have il : a < x.cps.toList.length := (List.getElem?_eq_some_iff.mp hc).1
      have d : x.cps.toList.drop a = c :: x.cps.toList.drop (a + 1) := by
        rw [List.drop_eq_getElem_cons il]
        rw [List.getElem?_eq_getElem il] at hc
        rw [Option.some.inj hc]
      have ih := occ_go x c n (a + 1) (st.fst.push a, a + 1) (by omega) (Nat.le_refl _) (by rw [Array.size_push]; omega)
      rw [Array.size_push] at ih
      rw [d, List.count_cons_self]
      refine Eq.trans ih ?_
      omega
    · rw [if_neg fun z => hc (one.mp ⟨z.1.2, z.2⟩)]
      have ih := occ_go x c n (a + 1) (st.fst, st.snd) (by omega) (by show st.snd ≤ a + 1; omega) (by show st.fst.size ≤ a + 1; omega)
      refine Eq.trans ih ?_
      by_cases il : a < x.cps.toList.length
      · have d : x.cps.toList.drop a = x.cps.toList[a] :: x.cps.toList.drop (a + 1) := List.drop_eq_getElem_cons il
        rw [List.getElem?_eq_getElem il] at hc
        rw [d, List.count_cons_of_ne (fun z => hc (by rw [z]))]
      · rw [List.drop_of_length_le (Nat.le_of_not_lt il), List.drop_of_length_le (by omega)]
theorem occ_count (x : Str) (c : Nat) : (occurrences x ⟨#[c]⟩ 0 x.length (x.length + 1)).length = x.cps.toList.count c := by
  rw [occ_eq, Array.length_toList]
  have := occ_go x c (x.length + 1) 0 (#[], 0) (by omega) (Nat.le_refl _) (Nat.le_refl _)
  rw [List.drop_zero] at this
  rw [Nat.sub_zero]
  refine Eq.trans this ?_
  show 0 + _ = _
  omega
theorem split_len (x : Str) {c : Nat} (hc : c < 256) : (Txt.split x ⟨#[c]⟩).length = x.cps.toList.count c + 1 := by
  have k : strKind (⟨#[c]⟩ : Str) = 1 := by
    unfold Str.strKind
    rw [if_pos (by simp [hc])]
  have k1 : 1 ≤ strKind x := by
    unfold Str.strKind
    split
    · exact Nat.le_refl _
    · split <;> decide
  have oc := occ_count x c
  unfold Txt.split
  split
  · rename_i h
    rw [Bool.or_eq_true, decide_eq_true_eq, decide_eq_true_eq, k] at h
    have h0 : x.length = 0 := by
      rcases h with h | h
      · have : (⟨#[c]⟩ : Str).length = 1 := rfl
        omega
      · omega
    have e : x.cps.toList = [] := List.eq_nil_of_length_eq_zero (by rw [Array.length_toList]; exact h0)
    rw [e]
    rfl
  · split
    · rename_i h
      have : (occurrences x ⟨#[c]⟩ 0 x.length (x.length + 1)).length = 0 := by rw [List.isEmpty_iff.mp h] <;> rfl
      rw [← oc, this]
      rfl
    · rw [length_partsBetween, oc]
/-- texts joined by one sign, on lists -/
def jl (c : Nat) : List (List Nat) → List Nat
  | [] => []
  | [a] => a
  | a :: b :: r => a ++ c :: jl c (b :: r)
theorem join_jl (c : Nat) : ∀ L : List Str, (Str.join ⟨#[c]⟩ L).cps.toList = jl c (L.map fun x => x.cps.toList)
  | [] => rfl
  | [a] => rfl
  | a :: b :: r => by
    have ih := join_jl c (b :: r)
    show ((a ++ (⟨#[c]⟩ : Str) ++ Str.join ⟨#[c]⟩ (b :: r)) : Str).cps.toList = _
    rw [PySem.Str.cps_append, PySem.Str.cps_append, Array.toList_append, Array.toList_append, ih, List.append_assoc]
    rfl
theorem count_jl (c : Nat) : ∀ L : List (List Nat), L ≠ [] → (jl c L).count c + 1 = (L.map fun a => a.count c).sum + L.length
  | [], h => absurd rfl h
  | [a], _ => by simp [jl]
  | a :: b :: r, _ => by
    have ih := count_jl c (b :: r) (List.cons_ne_nil _ _)
    rw [jl, List.count_append, List.count_cons_self, List.map_cons, List.sum_cons, List.length_cons]
    omega
theorem tw_app {c : Nat} : ∀ {a r : List Nat}, c ∉ a → (a ++ c :: r).takeWhile (fun x => x != c) = a ∧ (a ++ c :: r).dropWhile (fun x => x != c) = c :: r
  | [], r, _ => by simp
  | x :: a, r, h => by
    have hx : (x != c) = true := bne_iff_ne.mpr fun e => h (e ▸ List.mem_cons_self)
    obtain ⟨h1, h2⟩ := tw_app (a := a) (r := r) fun z => h (.tail _ z)
    rw [List.cons_append, List.takeWhile_cons, List.dropWhile_cons, hx]
    exact ⟨by simp [h1], by simp [h2]⟩
theorem jl_inj {c : Nat} : ∀ {L M : List (List Nat)}, L ≠ [] → M ≠ [] → (∀ a ∈ L, c ∉ a) → (∀ a ∈ M, c ∉ a) → jl c L = jl c M → L = M
  | [], _, h, _, _, _, _ => absurd rfl h
  | _, [], _, h, _, _, _ => absurd rfl h
  | [a], [b], _, _, _, _, e => by
    have e' : a = b := e
    rw [e']
  | [a], b :: d :: r, _, _, h1, _, e => by
    exfalso
    have e' : a = b ++ c :: jl c (d :: r) := e
    exact h1 a List.mem_cons_self (by rw [e']; exact List.mem_append_right _ List.mem_cons_self)
  | a :: d :: r, [b], _, _, _, h2, e => by
    exfalso
    have e' : a ++ c :: jl c (d :: r) = b := e
    exact h2 b List.mem_cons_self (by rw [← e']; exact List.mem_append_right _ List.mem_cons_self)
  | a :: a2 :: r, b :: b2 :: s, _, _, h1, h2, e => by
    have e' : a ++ c :: jl c (a2 :: r) = b ++ c :: jl c (b2 :: s) := e
    obtain ⟨x1, x2⟩ := tw_app (r := jl c (a2 :: r)) (h1 a List.mem_cons_self)
    obtain ⟨y1, y2⟩ := tw_app (r := jl c (b2 :: s)) (h2 b List.mem_cons_self)
    rw [e'] at x1 x2
    have ab : a = b := x1.symm.trans y1
    have e2 : jl c (a2 :: r) = jl c (b2 :: s) := (List.cons.inj (x2.symm.trans y2)).2
    rw [ab, jl_inj (List.cons_ne_nil _ _) (List.cons_ne_nil _ _) (fun z hz => h1 z (.tail _ hz)) (fun z hz => h2 z (.tail _ hz)) e2]
theorem sum_zero : ∀ {l : List Nat}, l.sum = 0 → ∀ x ∈ l, x = 0
  | [], _, _, h => nomatch h
  | y :: l, e, x, h => by
    rw [List.sum_cons] at e
    rcases List.mem_cons.mp h with z | z
    · omega
    · exact sum_zero (by omega) x z
/-- split takes apart what join put together -/
theorem split_join {c : Nat} (hc : c < 256) {L : List Str} (ne : L ≠ []) (no : ∀ a ∈ L, c ∉ a.cps.toList) : Txt.split (Str.join ⟨#[c]⟩ L) ⟨#[c]⟩ = L := by
  obtain ⟨x, ex⟩ : ∃ x, x = Str.join ⟨#[c]⟩ L := ⟨_, rfl⟩
  obtain ⟨M, eM⟩ : ∃ M, M = Txt.split x ⟨#[c]⟩ := ⟨_, rfl⟩
  rw [← ex, ← eM]
  have jM : Str.join ⟨#[c]⟩ M = x := by rw [eM, join_split]
  have lM : M.length = x.cps.toList.count c + 1 := by rw [eM, split_len x hc]
  have neM : M ≠ [] := fun z => by rw [z] at lM; simp at lM
  have tx : x.cps.toList = jl c (L.map fun a => a.cps.toList) := by rw [ex, join_jl]
  have tm : x.cps.toList = jl c (M.map fun a => a.cps.toList) := by rw [← jM, join_jl]
  have cx := count_jl c (L.map fun a => a.cps.toList) (by simpa using ne)
  have cm := count_jl c (M.map fun a => a.cps.toList) (by simpa using neM)
  rw [← tm, List.length_map] at cm
  have z : ((M.map fun a => a.cps.toList).map fun a => a.count c).sum = 0 := by omega
  have noM : ∀ a ∈ M.map (fun a => a.cps.toList), c ∉ a := fun a ha hz => by
    have := sum_zero z _ (List.mem_map.mpr ⟨a, ha, rfl⟩)
    exact absurd (List.count_pos_iff.mpr hz) (by omega)
  have e := jl_inj (c := c) (L := M.map fun a => a.cps.toList) (M := L.map fun a => a.cps.toList) (by simpa using neM) (by simpa using ne) noM (fun a ha => by
    obtain ⟨b, hb, rfl⟩ := List.mem_map.mp ha
    exact no b hb) (tm.symm.trans tx)
  have inj : ∀ {A B : List Str}, A.map (fun a => a.cps.toList) = B.map (fun a => a.cps.toList) → A = B := by
    intro A
    induction A with
    | nil =>
      intro B h
      exact (List.map_eq_nil_iff.mp h.symm).symm
    | cons a A ih =>
      intro B h
      cases B with
      | nil => cases h
      | cons b B =>
        rw [List.map_cons, List.map_cons] at h
        obtain ⟨h1, h2⟩ := List.cons.inj h
        rw [ih h2, Str.ext' (Array.toList_inj.mp h1)]
  exact inj e
end Vs1
set_option Elab.async false
set_option linter.all false
set_option maxRecDepth 100000
/-! the figures of small numbers -/
namespace Vs1
open PySem
/-- a number's figures -/
def num (k : Nat) : Str := Str.ofString (toString ((k : Nat) : Int))
def numB (k : Nat) : Bool := Nat.ble 1 (num k).cps.size && Nat.ble (num k).cps.size 3 && (num k).cps.toList.all fun c => Nat.ble 48 c && Nat.ble c 57
theorem num_look : ((List.range 1000).all numB) = true := by decide +kernel
theorem num_at {k : Nat} (h : k < 1000) : 1 ≤ (num k).cps.size ∧ (num k).cps.size ≤ 3 ∧ ∀ c ∈ (num k).cps.toList, 48 ≤ c ∧ c ≤ 57 := by
  have := List.all_eq_true.mp num_look k (List.mem_range.mpr h)
  unfold numB at this
  rw [Bool.and_eq_true, Bool.and_eq_true] at this
  obtain ⟨⟨h1, h2⟩, h3⟩ := this
  refine ⟨Nat.le_of_ble_eq_true h1, Nat.le_of_ble_eq_true h2, fun c hc => ?_⟩
  have z := List.all_eq_true.mp h3 c hc
  rw [Bool.and_eq_true] at z
  exact ⟨Nat.le_of_ble_eq_true z.1, Nat.le_of_ble_eq_true z.2⟩
theorem num_reads {k : Nat} (h : k < 1000) : intText? (num k) = some (k : Int) := PySem.W.KIN.num_reads (n := (k : Int)) (by omega) (by omega)
end Vs1
set_option Elab.async false
set_option linter.all false
set_option maxRecDepth 100000
namespace Vk
open PySem PySem.Spec PyProof.Rows L2 ClX
/-! C.m(k = v, ..), m a classmethod, nothing by position -/
def tCMethK (C : Addr) (sp : Sp) (gV : List V → List V → List V) (E : XK) (ta : TE) (tk : TA) : TE := fun σ H Q => ta σ H fun x H1 => x = .ref C ∧ tk σ H1 fun zs H2 => sp (gV [.ref C] zs) H2 Q E
section
variable {X : Cx} {CX : CXT} {k : Nat} {C p g : Addr} {mc : Value} {fd : FuncData} {ps ks : List Str} {sp : Sp} {E : XK} {o : Expr} {m : Str} {pos apos : Pos} {ta : TE} {tk : TA} {pl : Sem Bool} {kws : List Keyword}
  {gg : List Value → List Value → List Value} {gV : List V → List V → List V}
theorem callwith_cmk {pins : List (Addr × Obj)} {σ : L2.St} {H : Hp} {s : Shared} {A : Around} {q : Addr} {Q E : Value → Shared → Prop} (hf : PySem.W.fnIn X.K g = true) (hall : (backToKw pos (keywordEach kws X.env)).all (·.1.isSome) = true)
    (h : wpAny (model X.prog X.w) A (evalAll ((backToKw pos (keywordEach kws X.env)).map (·.2))) (fun ws s₂ => PySem.W.MethP X.K q g (.ref C) s₂.heap ∧ wpAny (model X.prog X.w) A (call (.ref q) ([] ++ []) (((backToKw pos (keywordEach kws X.env)).filterMap (·.1)).zip ws)) Q E s₂) E s)
    (hplain : ((backTo pos (starEach [] X.env)).any (·.1) || (backToKw pos (keywordEach kws X.env)).any (·.1.isNone)) = false) :
    wpAny (model X.prog X.w) A (callWith pos (.ref q) [] (backTo pos (starEach [] X.env)) (backToKw pos (keywordEach kws X.env))) Q E s :=
  PySem.W.callWith_of hplain (PySem.W.keeps_M hf) (PyProof.Rows.evalArgs_kw2_nil hall h)
theorem run_cmk {pins : List (Addr × Obj)} {σ : L2.St} {H : Hp} {s : Shared} {q : Addr} {Q : VK} {ws : List Value} {zs : List V} (F : FnOk X.prog X.w X.K X.mg X.base CX k g fd ps sp) (hr : Room k X.A) (hb : KBinds X.K fd ps ks gg gV) (hx : Passes CX X E)
    (I : Inv X ((q, PySem.W.methodObj (.ref g) (.ref C)) :: pins) σ H s) (rz : Vals zs ws) (h : sp (gV [.ref C] zs) H Q E) : wpAny (model X.prog X.w) X.A (call (.ref q) [] (ks.zip ws)) (EP X pins σ Q) X.xe s := by
  have r2 := hb.rel (show Vals [V.ref C] [Value.ref C] from .cons rfl .nil) rz
  have hl : (gg [.ref C] ws).length = ps.length := by rw [← r2.length]; exact F.len _ _ _ _ h
  have z : wpAny (model X.prog X.w) X.A (call (.ref q) [] (ks.zip ws)) (EP X ((q, PySem.W.methodObj (.ref g) (.ref C)) :: pins) σ Q) X.xe s := by
    refine wpAny_call (PySem.W.method_call (pin_at I) (codeAny_mono (F.run X.A X.stack s H ⟨[.ref C], ks.zip ws⟩ (gg [.ref C] ws) (gV [.ref C] zs) Q E hr I.env0 (hb.to s [.ref C] ws I.kIn hl) r2 h) fun r s' hq => ?_))
    cases r with
    | error e => exact hx _ σ H s e s' I hq
    | ok fl =>
      cases fl with
      | ret u => exact I.after hq
      | next => exact False.elim hq
      | brk => exact False.elim hq
      | cont => exact False.elim hq
  exact thn z fun _ _ y => unpinE y
theorem pe_cmethK (he : PE X o ta) (r : CRead X.K C mc) (c : CMet X.K C mc m p g) (F : FnOk X.prog X.w X.K X.mg X.base CX k g fd ps sp) (hr : Room k X.A) (hb : KBinds X.K fd ps ks gg gV) (hx : Passes CX X E) (hkw : PK X kws tk)
    (hall : (backToKw pos (keywordEach kws X.env)).all (·.1.isSome) = true := by rfl) (hks : (backToKw pos (keywordEach kws X.env)).filterMap (·.1) = ks := by rfl)
    (hpl : ((backTo pos (starEach [] X.env)).any (·.1) || (backToKw pos (keywordEach kws X.env)).any (·.1.isNone)) = false := by rfl)
    (ht : eval (.Call (.Attribute o m apos) [] kws pos) X.env = (do
      let ov ← eval o X.env
      standAt apos.atName
      let (f, first) ← holding [ov] (getMethod ov m pl)
      callWith pos f first (backTo pos (starEach [] X.env)) (backToKw pos (keywordEach kws X.env))) := by rfl) :
    PE X (.Call (.Attribute o m apos) [] kws pos) (tCMethK C sp gV E ta tk) := by
  refine ⟨fun pins s σ H Q I h => ?_⟩
  refine PySem.W.methodCall_KW (pl := pl) (thn (he.run pins s σ H _ I h) fun u s1 ⟨x, H1, I1, rx, ex, q⟩ => ?_) ht
  subst ex
  obtain rfl : u = Value.ref C := rx
  refine getmethcm_ok I1 r c fun s2 I2 => ?_
  refine callwith_cmk (pins := pins) (σ := σ) (H := H) c.fi hall (thn (hkw.run pos _ s2 σ H1 _ I2 q) fun ws s3 ⟨zs, H2, I3, rz, q2⟩ => ⟨⟨pin_at I3, I3.kIn⟩, ?_⟩) hpl
  rw [hks]
  exact run_cmk F hr hb hx I3 rz q2
end
end Vk
set_option Elab.async false
set_option linter.all false
set_option maxRecDepth 100000
namespace Vk
open PySem PySem.Spec PyProof.Rows L2 ClX
/-! C.m(e), m a classmethod that may raise, within a try -/
def tCMethS (C : Addr) (sp : Sp) (E : L2.St → XK) (ta : TE) (t : TA) : TE := fun σ H Q => ta σ H fun x H1 => x = .ref C ∧ t σ H1 fun vs H2 => sp (.ref C :: vs) H2 Q (E σ)
section
variable {X : Cx} {CX : CXT} {k : Nat} {C p g : Addr} {mc : Value} {fd : FuncData} {ps : List Str} {sp : Sp} {E : L2.St → XK} {o e : Expr} {es : List Expr} {m : Str} {pos apos : Pos} {ta : TE} {t : TA} {pl : Sem Bool}
theorem run_cmS {pins : List (Addr × Obj)} {σ : L2.St} {H : Hp} {s : Shared} {q : Addr} {Q : VK} {us : List Value} {vs : List V} (F : FnOk X.prog X.w X.K X.mg X.base CX k g fd ps sp) (hr : Room k X.A) (hb : Binds X.K fd ps []) (hx : PassesAt CX X σ (E σ))
    (I : Inv X ((q, PySem.W.methodObj (.ref g) (.ref C)) :: pins) σ H s) (r : Vals vs us) (h : sp (.ref C :: vs) H Q (E σ)) : wpAny (model X.prog X.w) X.A (call (.ref q) us) (EP X pins σ Q) X.xe s := by
  have r2 : Vals (V.ref C :: vs) (Value.ref C :: us ++ []) := by rw [List.append_nil]; exact .cons rfl r
  have hl : (Value.ref C :: us).length + 0 = ps.length := by
    have e1 := F.len _ _ _ _ h
    have e2 := r2.length
    rw [List.append_nil] at e2
    rw [Nat.add_zero, ← e2, e1]
  have z : wpAny (model X.prog X.w) X.A (call (.ref q) us) (EP X ((q, PySem.W.methodObj (.ref g) (.ref C)) :: pins) σ Q) X.xe s := by
    refine wpAny_call (PySem.W.method_call (pin_at I) (codeAny_mono (F.run X.A X.stack s H ⟨Value.ref C :: us, []⟩ (Value.ref C :: us ++ []) (.ref C :: vs) Q (E σ) hr I.env0 (hb s (Value.ref C :: us) I.kIn (by rw [List.length_append]; exact hl)) r2 h) fun r s' hq => ?_))
    cases r with
    | error e => exact hx _ H s e s' I hq
    | ok fl =>
      cases fl with
      | ret u => exact I.after hq
      | next => exact False.elim hq
      | brk => exact False.elim hq
      | cont => exact False.elim hq
  exact thn z fun _ _ y => unpinE y
theorem pe_cmethS (he : PE X o ta) (r : CRead X.K C mc) (c : CMet X.K C mc m p g) (F : FnOk X.prog X.w X.K X.mg X.base CX k g fd ps sp) (hr : Room k X.A) (hb : Binds X.K fd ps []) (hx : ∀ σ, PassesAt CX X σ (E σ)) (ha : PA X (e :: es) t)
    (hst : starEach (e :: es) X.env = (false, eval e X.env) :: starEach es X.env := by rfl) (hpl : (backTo pos (starEach es X.env)).any (·.1) = false := by rfl)
    (ht : eval (.Call (.Attribute o m apos) (e :: es) [] pos) X.env = (do
      let ov ← eval o X.env
      standAt apos.atName
      let (f, first) ← holding [ov] (getMethod ov m pl)
      callWith pos f first (backTo pos (starEach (e :: es) X.env)) (backToKw pos (keywordEach [] X.env))) := by rfl) :
    PE X (.Call (.Attribute o m apos) (e :: es) [] pos) (tCMethS C sp E ta t) := by
  refine ⟨fun pins s σ H Q I h => ?_⟩
  refine PySem.W.methodCall_KW (pl := pl) (thn (he.run pins s σ H _ I h) fun u s1 ⟨x, H1, I1, rx, ex, q⟩ => ?_) ht
  subst ex
  obtain rfl : u = Value.ref C := rx
  refine getmethcm_ok I1 r c fun s2 I2 => ?_
  refine callwith_cm I2 (base_none I1 (Nat.le_refl _)) c.fi (thn (ha.run pos _ s2 σ H1 _ I2 q) fun us s3 ⟨vs, H2, I3, rv, q2⟩ => ⟨⟨pin_at I3, I3.kIn⟩, ?_⟩) hst hpl
  exact run_cmS F hr hb (hx σ) I3 rv q2
end
end Vk
set_option Elab.async false
set_option linter.all false
set_option maxRecDepth 100000
set_option maxHeartbeats 4000000
namespace Vk
open PySem PySem.Spec PyProof.Rows L2
/-- sorted(xs), xs a list of tuples of whole numbers and texts -/
def rSortedLM (K : PySem.W.Frag) : List V → Hp → VK → Prop := fun vs H Q => ∃ (a : Addr) (L : List (Addr × List Key)), vs = [.ref a] ∧ SqL K H a (L.map fun p => V.ref p.1) ∧ (∀ p ∈ L, SqT K H p.1 (p.2.map kV)) ∧ PySem.W.AllAlike (L.map encM) ∧ (∀ p ∈ L, p.2 ≠ []) ∧ L.length ≤ 4000 ∧
  ∀ (ys : List (Addr × List Key)) p, ys.Perm L → ys.Pairwise (fun x y => leM x y = true) → H p = none → Q (.ref p) (upd H p (.lst (ys.map fun q => V.ref q.1)))
theorem each_vals {T : Value → Addr × List Key → Prop} : ∀ {L : List (Addr × List Key)} {us : List Value}, Vals (L.map fun p => V.ref p.1) us → (∀ p ∈ L, T (.ref p.1) p) → PySem.W.EachIs T us L
  | [], _, .nil, _ => .nil
  | p :: L, _, .cons r t, h => by
    cases r
    exact .cons (h p List.mem_cons_self) (each_vals t fun q hq => h q (.tail _ hq))
theorem cr_sortedL {X : Cx} (hu : X.A.units + 64 < cLine) : CallR X (.builtin "sorted") (rSortedLM X.K) := by
  intro pins s σ H vs us Q I r h
  obtain ⟨a, L, rfl, hs, tup, al, ne, few, q⟩ := h
  obtain ⟨its, rv, hl, _⟩ := I.list hs
  rw [Vals.ref1 r]
  have dep : ∀ p : Addr × List Key, (encM p).depth ≤ 1 := fun p => by
    unfold encM
    rw [PyData.depth, depth_keys] <;> omega
  refine PySem.W.sorted_data (vs := its) (bs := L) (enc := encM) (R := fun v (p : Addr × List Key) => v = .ref p.1) hl.isList (each_vals rv fun _ _ => rfl) (each_vals rv fun p hp => ⟨[], isM_reads (isM_of I (tup p hp))⟩) al
    (.inl fun d hd => ?_) (by rw [sizeLine_eq]; omega) (fun b _ => by have := dep b; omega) fun out ol eo => ?_
  · obtain ⟨p, hp, rfl⟩ := List.mem_map.mp hd
    cases z : p.2 with
    | nil => exact absurd z (ne p hp)
    | cons x k => exact ⟨keyD x, k.map keyD, by rw [encM, z, List.map_cons]⟩
  obtain ⟨ep, he⟩ := PyProof.Rows.sortedAll_at s.heap its out.toArray
  have py : (L.mergeSort (PySem.W.dataLe false encM)).Perm L := List.mergeSort_perm _ _
  have hlen : ((L.mergeSort (PySem.W.dataLe false encM)).map fun q => V.ref q.1).length ≤ sizeLine := by
    rw [List.length_map, py.length_eq, sizeLine_eq]
    omega
  have tot := PySem.W.sortLe_total (listOrd itemOrd) false fun b : Addr × List Key => PySem.W.keyToks (encM b)
  exact ⟨.ref _, upd H (s.heap.objs.size + 1) (.lst ((L.mergeSort (PySem.W.dataLe false encM)).map fun q => V.ref q.1)), I.laid (t' := s.toks) (fun _ _ => PyProof.Rows.sortedAll_old) (Nat.le_succ _) ⟨hlen, out, ep, vals_refs eo, he⟩, rfl,
    q _ _ py (List.pairwise_mergeSort tot.trans (fun x y => by rw [Bool.or_eq_true]; exact tot.total x y) L) (I.hok.fresh (Nat.le_succ _))⟩
end Vk
set_option Elab.async false
set_option linter.all false
set_option maxRecDepth 100000
set_option maxHeartbeats 4000000
namespace Vk
open PySem PySem.Spec PyProof.Rows L2
def top8 (i : Nat) : Stmt := PySem.Challenge.pw_loopsdeep_k02_machines_of_any_value.main.body.getD i (.Pass ⟨0, 0, 0, 0⟩)
abbrev sNum : Stmt := top8 8
abbrev sLet : Stmt := top8 9
abbrev sState : Stmt := top8 13
abbrev sMove : Stmt := top8 14
/-- a statement that is never come to -/
theorem ps_never {X : Cx} {st : Stmt} : PS X st (fun _ _ _ => False) := ⟨fun _ _ _ _ _ _ h => h.elim⟩
/-! ## the data of machines -/
structure Mv where
  s : Nat
  c : Nat
  t : Nat
def sg (c : Nat) : Str := ⟨#[c]⟩
def mvV (m : Mv) : List V := [.int (m.s : Int), .str (sg m.c), .int (m.t : Int)]
def mvK (m : Mv) : List Key := [.inl (m.s : Int), .inr (sg m.c), .inl (m.t : Int)]
def OkMv (n : Nat) (m : Mv) : Prop := m.s < n ∧ m.t < n ∧ 97 ≤ m.c ∧ m.c ≤ 122
structure MvsAt (K : PySem.W.Frag) (H : Hp) (l : Addr) (ms : List (Addr × Mv)) : Prop where
  tp : SqT K H l (ms.map fun p => V.ref p.1)
  it : ∀ p ∈ ms, SqT K H p.1 (mvV p.2)
structure Txt8 (K : PySem.W.Frag) (mg : Str → Option Value) : Prop where
  isi : mg "isinstance" = none
  int : mg "int" = none
  bool : mg "bool" = none
  str : mg "str" = none
  tup : mg "tuple" = none
  len : mg "len" = none
  lst : mg "list" = none
  srt : mg "sorted" = none
  set : mg "set" = none
  rng : mg "range" = none
section
variable {P : Program} {w : World} {K : PySem.W.Frag} {mg : Str → Option Value} {base : Heap}
def spNum : Sp := fun vs H Q _ => ∃ i : Int, vs = [.int i] ∧ Q (.bl true) H
theorem scN : FnScope ["thing"] ["thing"] (defScope sNum) := ⟨rfl, rfl, rfl, by decide +kernel, rfl, by decide +kernel, by decide +kernel⟩
theorem ok_num {f : Addr} {fd : FuncData} (F : Fun K "is_number" "is_number" sNum f fd) (T : Txt8 K mg) : FnOk P w K mg base CX0 1 f fd ["thing"] spNum := by
  refine F.ok scN (fun vs H Q E h => ?_) (fun cdv A outer s H vs Q E hr h => ?_)
  · obtain ⟨i, rfl, _⟩ := h
    rfl
  · obtain ⟨i, rfl, k⟩ := h
    refine ⟨_, (pss_one (ps_ret (pe_and (pe_callB call_isi (by rfl) T.isi (by decide +kernel) (pa_cons (pv 0) (pa_cons (pe_bltn (v := .ty "int") (by rfl) T.int (by decide +kernel) rfl) pa_nil))) (pe_one (pe_not (pe_callB call_isi (by rfl) T.isi (by decide +kernel) (pa_cons (pv 0) (pa_cons (pe_bltn (v := .ty "bool") (by rfl) T.bool (by decide +kernel) rfl) pa_nil)))))))), ?_⟩
    refine ⟨_, rfl, _, _, _, _, true, rfl, .ty "int", .base (.int i), rfl, _, rfl, ?_⟩
    refine ⟨_, rfl, _, _, _, _, false, rfl, .ty "bool", .base (.int i), rfl, _, rfl, ?_⟩
    exact k
theorem no_lt {a b : Nat} (h : b ≤ a) : (!decide ([a] < [b])) = true := by
  simp [List.cons_lt_cons_iff]
  omega
def spLet : Sp := fun vs H Q _ => ∃ c : Nat, vs = [.str (sg c)] ∧ 97 ≤ c ∧ c ≤ 122 ∧ Q (.bl true) H
theorem scE : FnScope ["thing"] ["thing"] (defScope sLet) := ⟨rfl, rfl, rfl, by decide +kernel, rfl, by decide +kernel, by decide +kernel⟩
theorem ok_let {f : Addr} {fd : FuncData} (F : Fun K "is_letter" "is_letter" sLet f fd) (T : Txt8 K mg) : FnOk P w K mg base CX0 1 f fd ["thing"] spLet := by
  refine F.ok scE (fun vs H Q E h => ?_) (fun cdv A outer s H vs Q E hr h => ?_)
  · obtain ⟨c, rfl, _⟩ := h
    rfl
  · obtain ⟨c, rfl, h1, h2, k⟩ := h
    refine ⟨_, (pss_one (ps_ret (pe_and (pe_callB call_isi (by rfl) T.isi (by decide +kernel) (pa_cons (pv 0) (pa_cons (pe_bltn (v := .ty "str") (by rfl) T.str (by decide +kernel) rfl) pa_nil))) (pe_and (pe_cmpR op_eq (pe_callB call_len_str (by rfl) T.len PySem.boot_len (pa_cons (pv 0) pa_nil)) pe_int (nomark _)) (pe_one (pe_chain op_le_str op_le_str pe_str (pv 0) pe_str)))))), ?_⟩
    refine ⟨_, rfl, _, _, _, _, true, rfl, .ty "str", .base (.str _), rfl, _, rfl, ?_⟩
    refine iteT ?_
    refine ⟨_, rfl, _, rfl, (show 1 ≤ sizeLine by decide), rfl, _, rfl, ?_⟩
    refine iteT ?_
    refine ⟨_, rfl, _, _, rfl, rfl, _, rfl, ?_⟩
    refine ite2 (fun _ => ?_) (fun z => ?_)
    · refine ⟨_, _, rfl, rfl, ?_⟩
      show Q (.bl (!decide ([122] < [c])))  H
      rw [no_lt h2]
      exact k
    · exact absurd (no_lt h1) z
def spState : Sp := fun vs H Q _ => ∃ i n : Int, vs = [.int i, .int n] ∧ 0 ≤ i ∧ i < n ∧ Q (.bl true) H
theorem scS : FnScope ["thing", "size"] ["thing", "size"] (defScope sState) := ⟨rfl, rfl, rfl, by decide +kernel, rfl, by decide +kernel, by decide +kernel⟩
theorem ok_state {f fN : Addr} {fd fdN : FuncData} (F : Fun K "is_state" "is_state" sState f fd) (T : Txt8 K mg) (FN : Fun K "is_number" "is_number" sNum fN fdN) (gN : mg "is_number" = some (.ref fN)) (bN : Binds K fdN ["thing"] []) : FnOk P w K mg base CX0 2 f fd ["thing", "size"] spState := by
  have GN : FnOk P w K mg base CX0 1 fN fdN ["thing"] spNum := ok_num FN T
  refine F.ok scS (fun vs H Q E h => ?_) (fun cdv A outer s H vs Q E hr h => ?_)
  · obtain ⟨i, n, rfl, _⟩ := h
    rfl
  · obtain ⟨i, n, rfl, h1, h2, k⟩ := h
    refine ⟨_, (pss_one (ps_ret (pe_and (pe_call GN hr rfl gN FN.kp bN .nil pass0 (pa_cons (pv 0) pa_nil)) (pe_one (pe_chain op_le op_lt pe_int (pv 0) (pv 1)))))), ?_⟩
    refine ⟨_, rfl, i, rfl, _, rfl, ?_⟩
    refine iteT ?_
    refine ⟨_, rfl, _, _, rfl, rfl, _, rfl, ?_⟩
    rw [decide_eq_true h1]
    refine iteT ?_
    refine ⟨_, rfl, _, _, rfl, rfl, ?_⟩
    show Q (.bl (decide (i < n))) H
    rw [decide_eq_true h2]
    exact k
def spMove (K : PySem.W.Frag) : Sp := fun vs H Q _ => ∃ (a : Addr) (m : Mv) (n : Nat), vs = [.ref a, .int (n : Int)] ∧ SqT K H a (mvV m) ∧ OkMv n m ∧ Q (.bl true) H
theorem scM : FnScope ["thing", "size"] ["thing", "size"] (defScope sMove) := ⟨rfl, rfl, rfl, by decide +kernel, rfl, by decide +kernel, by decide +kernel⟩
theorem tyT {H : Hp} {a : Addr} {xs : List V} (h : SqT K H a xs) : TyX K H (.ref a) (.type "tuple") := by
  rcases h with (h | ⟨o, h⟩) | ⟨o, its, n, h, hc, _⟩
  · exact .base (.tup h)
  · exact .fTuple h
  · exact .kTuple h hc
theorem ok_move {f fN fS fE : Addr} {fd fdN fdS fdE : FuncData} (F : Fun K "is_move" "is_move" sMove f fd) (T : Txt8 K mg) (FN : Fun K "is_number" "is_number" sNum fN fdN) (gN : mg "is_number" = some (.ref fN)) (bN : Binds K fdN ["thing"] [])
    (FS : Fun K "is_state" "is_state" sState fS fdS) (gS : mg "is_state" = some (.ref fS)) (bS : Binds K fdS ["thing", "size"] []) (FE : Fun K "is_letter" "is_letter" sLet fE fdE) (gE : mg "is_letter" = some (.ref fE)) (bE : Binds K fdE ["thing"] []) :
    FnOk P w K mg base CX0 3 f fd ["thing", "size"] (spMove K) := by
  have GS : FnOk P w K mg base CX0 2 fS fdS ["thing", "size"] spState := ok_state FS T FN gN bN
  have GE : FnOk P w K mg base CX0 2 fE fdE ["thing"] spLet := (ok_let FE T).mono (by decide)
  refine F.ok scM (fun vs H Q E h => ?_) (fun cdv A outer s H vs Q E hr h => ?_)
  · obtain ⟨a, m, n, rfl, _⟩ := h
    rfl
  · obtain ⟨a, m, n, rfl, hS, ⟨h1, h2, h3, h4⟩, k⟩ := h
    refine ⟨_, (pss_cons (ps_if (PW.pt (pw_or (pt_not (pt_val (pe_callB call_isi (by rfl) T.isi (by decide +kernel) (pa_cons (pv 0) (pa_cons (pe_bltn (v := .ty "tuple") (by rfl) T.tup (by decide +kernel) rfl) pa_nil))))) (pw_or1 (pt_cmpR op_ne (pe_callB call_len (by rfl) T.len PySem.boot_len (pa_cons (pv 0) pa_nil)) pe_int (nomark _))))) (pss_one (ps_ret pe_bl)) pss_nil)
        (pss_one (ps_ret (pe_and (pe_call GS hr rfl gS FS.kp bS .nil pass0 (pa_cons (pe_ix ix_tup (pv 0) pe_int (fun _ _ => rfl)) (pa_cons (pv 1) pa_nil))) (pe_and (pe_call GE hr rfl gE FE.kp bE .nil pass0 (pa_cons (pe_ix ix_tup (pv 0) pe_int (fun _ _ => rfl)) pa_nil)) (pe_one (pe_call GS hr rfl gS FS.kp bS .nil pass0 (pa_cons (pe_ix ix_tup (pv 0) pe_int (fun _ _ => rfl)) (pa_cons (pv 1) pa_nil))))))))), ?_⟩
    refine ⟨_, rfl, _, _, _, _, true, rfl, .ty "tuple", tyT hS, rfl, _, rfl, ?_⟩
    refine iteF ?_
    refine ⟨_, rfl, _, 3, rfl, .inr ⟨_, hS, rfl⟩, rfl, _, rfl, ?_⟩
    refine iteF ?_
    refine ⟨_, rfl, a, _, _, _, rfl, rfl, hS, rfl, _, rfl, _, _, rfl, Int.natCast_nonneg _, Int.ofNat_lt.mpr h1, _, rfl, ?_⟩
    refine iteT ?_
    refine ⟨_, rfl, a, _, _, _, rfl, rfl, hS, rfl, _, rfl, h3, h4, _, rfl, ?_⟩
    refine iteT ?_
    exact ⟨_, rfl, a, _, _, _, rfl, rfl, hS, rfl, _, rfl, _, _, rfl, Int.natCast_nonneg _, Int.ofNat_lt.mpr h2, k⟩
end
end Vk
set_option Elab.async false
set_option linter.all false
set_option maxRecDepth 100000
set_option maxHeartbeats 4000000
namespace Vk
open PySem PySem.Spec PyProof.Rows L2 Vt
abbrev sMoves : Stmt := top8 15
abbrev sEnds : Stmt := top8 16
/-- a sorted arrangement is the one that rises -/
theorem rising_one {α : Type} {le : α → α → Bool} : ∀ {ks ys : List α}, ys.Perm ks → ys.Pairwise (fun x y => le x y = true) → ks.Pairwise (fun x y => le y x = false) → ys = ks
  | [], ys, p, _, _ => List.Perm.eq_nil p
  | k :: ks, [], p, _, _ => absurd p.length_eq (by simp)
  | k :: ks, y :: ys, p, s, r => by
    obtain ⟨s1, s2⟩ := List.pairwise_cons.mp s
    obtain ⟨r1, r2⟩ := List.pairwise_cons.mp r
    have e : y = k := by
      rcases List.mem_cons.mp (p.mem_iff.mp List.mem_cons_self) with e | hy
      · exact e
      · rcases List.mem_cons.mp (p.mem_iff.mpr List.mem_cons_self) with e | hk
        · exact e.symm
        · have a := s1 k hk
          rw [r1 y hy] at a
          cases a
    subst e
    rw [rising_one ((List.perm_cons y).mp p) s2 r2]
theorem same_up {H : Hp} {p : Addr} {o : HO} (hp : H p = none) : Same H (upd H p o) := fun b u e => by
  rw [upd_ne (ne_of_none e hp)]
  exact e
def kp (p : Addr × Mv) : Addr × List Key := (p.1, mvK p.2)
/-- moves in ascending order, each once -/
def Asc (ms : List (Addr × Mv)) : Prop := (ms.map kp).Pairwise fun x y => leM y x = false
def mvD (m : Mv) : PyData := .tuple [.int (m.s : Int), .str (sg m.c), .int (m.t : Int)]
theorem perm_of_subs {L ks : List (Addr × List Key)} (h1 : ∀ p ∈ L, p ∈ ks) (h2 : ∀ p ∈ ks, p.2 ∈ L.map (·.2)) (nL : (L.map (·.2)).Nodup) (nk : (ks.map (·.2)).Nodup) : L.Perm ks := by
  have inj : ∀ {l : List (Addr × List Key)}, (l.map (·.2)).Nodup → ∀ {p q}, p ∈ l → q ∈ l → p.2 = q.2 → p = q := by
    intro l
    induction l with
    | nil => exact fun _ _ _ h => nomatch h
    | cons a l ih =>
      intro n p q hp hq e
      obtain ⟨n1, n2⟩ := List.nodup_cons.mp n
      rcases List.mem_cons.mp hp with z | z
      · rcases List.mem_cons.mp hq with y | y
        · exact z.trans y.symm
        · exact absurd (List.mem_map.mpr ⟨q, y, by rw [← e, z]⟩) n1
      · rcases List.mem_cons.mp hq with y | y
        · exact absurd (List.mem_map.mpr ⟨p, z, by rw [e, y]⟩) n1
        · exact ih n2 z y e
  have nd : ∀ {l : List (Addr × List Key)}, (l.map (·.2)).Nodup → l.Nodup := fun h => List.Pairwise.of_map _ (fun _ _ ne e => ne (congrArg _ e)) h
  exact (List.perm_ext_iff_of_nodup (nd nL) (nd nk)).mpr fun p => ⟨h1 p, fun hp => by
    obtain ⟨q, hq, e⟩ := List.mem_map.mp (h2 p hp)
    rw [← inj nk (h1 q hq) hp e]
    exact hq⟩
theorem leM_key {x y : Addr × List Key} (e : x.2 = y.2) : leM x y = true := by
  have tot := PySem.W.sortLe_total (listOrd itemOrd) false fun b : Addr × List Key => PySem.W.keyToks (encM b)
  have h : leM x x = true := (tot.total x x).elim id id
  have e2 : encM y = encM x := by unfold encM; rw [e]
  rw [← h]
  show (!PySem.W.dataLt (encM y) (encM x)) = (!PySem.W.dataLt (encM x) (encM x))
  rw [e2]
theorem asc_keys {ms : List (Addr × Mv)} (h : Asc ms) : ((ms.map kp).map (·.2)).Nodup := by
  unfold List.Nodup
  rw [List.pairwise_map]
  refine List.Pairwise.imp (fun {x y} z e => ?_) h
  rw [leM_key e.symm] at z
  cases z
theorem dp_mvs {K : PySem.W.Frag} {H : Hp} : ∀ {ms : List (Addr × Mv)}, (∀ p ∈ ms, SqT K H p.1 (mvV p.2)) → DpAll K H (ms.map fun p => V.ref p.1) (ms.map fun p => mvD p.2)
  | [], _ => .nil
  | p :: ms, h => .cons (.tup (h p List.mem_cons_self) (.cons (.int _) (.cons (.str _) (.cons (.int _) .nil)))) (dp_mvs fun q hq => h q (.tail _ hq))
theorem lay_mvs : ∀ ms : List (Addr × Mv), (∀ p ∈ ms, p.2.c ≤ 122) → PyData.canLayAll0 (ms.map fun p => mvD p.2) = true ∧ PyData.depthAll (ms.map fun p => mvD p.2) ≤ 1
  | [], _ => ⟨rfl, by simp [PyData.depthAll]⟩
  | p :: ms, hc => by
    obtain ⟨h1, h2⟩ := lay_mvs ms fun q hq => hc q (.tail _ hq)
    have so : PyData.strOk (sg p.2.c) = true := by
      have := hc p List.mem_cons_self
      simp [PyData.strOk, sg, Str.length]
      try omega
    have e1 : (mvD p.2).canLay0 = true := by simp [mvD, PyData.canLay0, PyData.canLayAll0, so]
    have e2 : (mvD p.2).depth ≤ 1 := by simp [mvD, PyData.depth, PyData.depthAll]
    rw [List.map_cons]
    refine ⟨by rw [PyData.canLayAll0, e1, h1] <;> rfl, ?_⟩
    rw [PyData.depthAll]
    exact Nat.max_le.mpr ⟨e2, h2⟩
theorem shaped_mvs (ms : List (Addr × Mv)) (hc : ∀ p ∈ ms, p.2.c ≤ 122) : SeqAt.shaped (.list (ms.map fun p => mvD p.2)) = true := by
  obtain ⟨h1, h2⟩ := lay_mvs ms hc
  unfold SeqAt.shaped
  rw [Bool.and_eq_true, decide_eq_true_eq]
  refine ⟨by rw [PyData.canLay0]; exact h1, ?_⟩
  rw [PyData.depth]
  omega
section
variable {P : Program} {w : World} {K : PySem.W.Frag} {mg : Str → Option Value} {base : Heap}
def spMoves (K : PySem.W.Frag) : Sp := fun vs H Q _ => ∃ (n : Nat) (l : Addr) (ms : List (Addr × Mv)), vs = [.int (n : Int), .ref l] ∧ MvsAt K H l ms ∧ (∀ p ∈ ms, OkMv n p.2) ∧ Asc ms ∧ ms.length ≤ 4000 ∧ ∀ H', Same H H' → Q .non H'
theorem scC : FnScope ["size", "moves", "move"] ["size", "moves"] (defScope sMoves) := ⟨rfl, rfl, rfl, by decide +kernel, rfl, by decide +kernel, by decide +kernel⟩
theorem ok_moves {f fM fN fS fE : Addr} {fd fdM fdN fdS fdE : FuncData} (F : Fun K "check_moves" "check_moves" sMoves f fd) (T : Txt8 K mg) (FM : Fun K "is_move" "is_move" sMove fM fdM) (gM : mg "is_move" = some (.ref fM)) (bM : Binds K fdM ["thing", "size"] [])
    (GM : FnOk P w K mg base CX0 3 fM fdM ["thing", "size"] (spMove K)) : FnOk P w K mg base CX0 4 f fd ["size", "moves"] (spMoves K) := by
  refine F.ok scC (fun vs H Q E h => ?_) (fun cdv A outer s H vs Q E hr h => ?_)
  · obtain ⟨n, l, ms, rfl, _⟩ := h
    rfl
  · obtain ⟨n, l, ms, rfl, hM, ok, asc, few, k⟩ := h
    have oc : ∀ p ∈ ms, p.2.c ≤ 122 := fun p hp => (ok p hp).2.2.2
    refine ⟨_, (pss_cons (ps_if (pt_not (pt_val (pe_callB call_isi (by rfl) T.isi (by decide +kernel) (pa_cons (pv 1) (pa_cons (pe_bltn (v := .ty "tuple") (by rfl) T.tup (by decide +kernel) rfl) pa_nil))))) (pss_one ps_never) pss_nil)
        (pss_cons (ps_for PassesOwn.never rfl (pi_tup (pv 1)) (pg_name (i := 2) scC.nd rfl (.inl rfl)) (pss_one (ps_if (pt_not (pt_val (pe_call GM hr rfl gM FM.kp bM .nil pass0 (pa_cons (pv 2) (pa_cons (pv 0) pa_nil))))) (pss_one ps_never) pss_nil)))
        (pss_one (ps_if (pt_cmpR (op_neD hr.units) (pe_callTy call_list_of (by rfl) T.lst (by decide +kernel) (pa_cons (pv 1) pa_nil)) (pe_callB (cr_sortedM (by rfl) hr.units) (by rfl) T.srt (by decide +kernel) (pa_cons (pe_callTy (cr_setM (by rfl) hr.units) (by rfl) T.set (by decide +kernel) (pa_cons (pv 1) pa_nil)) pa_nil)) (nomark _)) (pss_one ps_never) pss_nil)))), ?_⟩
    refine ⟨_, rfl, _, _, _, _, true, rfl, .ty "tuple", tyT hM.tp, rfl, _, rfl, ?_⟩
    refine iteF ?_
    refine ⟨_, rfl, l, rfl, ⟨_, hM.tp⟩, ?_⟩
    refine for_tup (K := K) (a := l) (xs := ms.map fun p => V.ref p.1) (fun i σ H' => ∃ v : Option V, σ = [some (.int (n : Int)), some (.ref l), v] ∧ H' = H) ⟨none, rfl, rfl⟩ (fun i σ H' _ ⟨_, _, e⟩ => by rw [e]; exact hM.tp) ?_ ?_
    · rintro i y σ H' hi ⟨v, rfl, rfl⟩
      rw [List.getElem?_map] at hi
      obtain ⟨p, hp, rfl⟩ := Option.map_eq_some_iff.mp hi
      have pm := List.mem_of_getElem? hp
      refine ⟨_, rfl, _, rfl, p.1, p.2, n, rfl, hM.it p pm, ok p pm, _, rfl, ?_⟩
      refine iteF ?_
      exact ⟨_, rfl, rfl⟩
    · rintro σ H' ⟨v, rfl, rfl⟩
      have kd : (ms.map kp).map (fun p => V.ref p.1) = ms.map fun p => V.ref p.1 := by rw [List.map_map] <;> rfl
      refine ⟨_, rfl, l, _, rfl, .inr hM.tp, fun l1 n1 => ?_⟩
      have s1 := same_up (o := .lst (ms.map fun p => V.ref p.1)) n1
      refine ⟨_, rfl, l, ms.map kp, rfl, .inl (by rw [kd]; exact same_seqT s1 hM.tp), fun p hp => ?_, by rw [List.length_map]; exact few, fun a L na h1 h2 h3 h4 => ?_⟩
      · obtain ⟨q, hq, rfl⟩ := List.mem_map.mp hp
        exact same_seqT s1 (hM.it q hq)
      have s2 := s1.trans (same_up (o := SetMO P w a L) na)
      have gk : ∀ {H2 : Hp}, Same H' H2 → ∀ p ∈ ms.map kp, SqT K H2 p.1 (p.2.map kV) := fun S p hp => by
        obtain ⟨q, hq, rfl⟩ := List.mem_map.mp hp
        exact same_seqT S (hM.it q hq)
      refine ⟨a, L, rfl, upd_same, fun p hp => gk s2 p (h1 p hp), fun d hd d' hd' => ?_, fun p hp => ?_, fun ys b py srt nb => ?_⟩
      · obtain ⟨p, hp, rfl⟩ := List.mem_map.mp hd
        obtain ⟨p', hp', rfl⟩ := List.mem_map.mp hd'
        obtain ⟨q, _, rfl⟩ := List.mem_map.mp (h1 p hp)
        obtain ⟨q', _, rfl⟩ := List.mem_map.mp (h1 p' hp')
        simp [encM, kp, mvK, keyD, PySem.W.alike, PySem.W.alikeAll]
      · obtain ⟨q, _, rfl⟩ := List.mem_map.mp (h1 p hp)
        exact fun z => by cases z
      · have pL : L.Perm (ms.map kp) := perm_of_subs h1 h2 h3 (asc_keys asc)
        obtain rfl : ys = ms.map kp := rising_one (py.trans pL) srt asc
        rw [kd]
        have s3 := s2.trans (same_up (o := .lst (ms.map fun p => V.ref p.1)) nb)
        have e1 : upd (upd (upd H' l1 (.lst (ms.map fun p => V.ref p.1))) a (SetMO P w a L)) b (.lst (ms.map fun p => V.ref p.1)) l1 = some (.lst (ms.map fun p => V.ref p.1)) := by
          rw [upd_ne (ne_of_none (by rw [upd_ne (ne_of_none upd_same na)]; exact upd_same) nb), upd_ne (ne_of_none upd_same na)]
          exact upd_same
        have dp : DpAll K (upd (upd (upd H' l1 (.lst (ms.map fun p => V.ref p.1))) a (SetMO P w a L)) b (.lst (ms.map fun p => V.ref p.1))) (ms.map fun p => V.ref p.1) (ms.map fun p => mvD p.2) := dp_mvs fun p hp => same_seqT s3 (hM.it p hp)
        refine ⟨.list (ms.map fun (p : Addr × Mv) => mvD p.2), .list (ms.map fun (p : Addr × Mv) => mvD p.2), Dp.lst (K := K) (SqL.of e1) dp, Dp.lst (K := K) (SqL.of upd_same) dp, shaped_mvs ms oc, shaped_mvs ms oc, _, rfl, ?_⟩
        rw [PySem.SeqAt.eqv_refl _ (SeqAt.canLay_of_shaped (shaped_mvs ms oc))]
        refine iteF ?_
        exact k _ s3
end
end Vk
set_option Elab.async false
set_option linter.all false
set_option maxRecDepth 100000
set_option maxHeartbeats 4000000
namespace Vk
open PySem PySem.Spec PyProof.Rows L2 Vt
def eK (e : Int) (m : Mv) : List Key := [.inr (sg m.c), .inl (if e = 0 then (m.s : Int) else (m.t : Int))]
section
variable {P : Program} {w : World} {K : PySem.W.Frag} {mg : Str → Option Value} {base : Heap}
def spEnds (K : PySem.W.Frag) : Sp := fun vs H Q _ => ∃ (e : Int) (l : Addr) (ms : List (Addr × Mv)), vs = [.ref l, .int e] ∧ (e = 0 ∨ e = 2) ∧ MvsAt K H l ms ∧ (ms.map fun p => eK e p.2).Nodup ∧ ms.length ≤ 3999 ∧ ∀ H', Same H H' → Q .non H'
theorem scX : FnScope ["moves", "end", "seen", "move"] ["moves", "end"] (defScope sEnds) := ⟨rfl, rfl, rfl, by decide +kernel, rfl, by decide +kernel, by decide +kernel⟩
theorem ok_ends {f : Addr} {fd : FuncData} (F : Fun K "check_ends" "check_ends" sEnds f fd) (T : Txt8 K mg) : FnOk P w K mg base CX0 1 f fd ["moves", "end"] (spEnds K) := by
  refine F.ok scX (fun vs H Q E h => ?_) (fun cdv A outer s H vs Q E hr h => ?_)
  · obtain ⟨e, l, ms, rfl, _⟩ := h
    rfl
  · obtain ⟨e, l, ms, rfl, he, hM, nd, few, k⟩ := h
    refine ⟨_, (pss_cons (ps_set (i := 2) scX.nd rfl (.inl rfl) (pe_callTy0 cr_set0M (by rfl) T.set (by decide +kernel)))
        (pss_one (ps_for PassesOwn.never rfl (pi_tup (pv 0)) (pg_name (i := 3) scX.nd rfl (.inl rfl)) (pss_cons (ps_if (pt_cmpR (op_inM hr.units) (pe_tup (pa_cons (pe_ix ix_tup (pv 3) pe_int (fun _ _ => rfl)) (pa_cons (pe_ix ix_tup (pv 3) (pv 1) (fun _ _ => rfl)) pa_nil))) (pv 2) (by rfl)) (pss_one ps_never) pss_nil)
        (pss_one (ps_expr (pe_addM hr.units (pv 2) (pa_cons (pe_tup (pa_cons (pe_ix ix_tup (pv 3) pe_int (fun _ _ => rfl)) (pa_cons (pe_ix ix_tup (pv 3) (pv 1) (fun _ _ => rfl)) pa_nil))) pa_nil)))))))), ?_⟩
    refine ⟨rfl, fun S nS => ?_⟩
    have s0 := same_up (o := SetMO P w S []) nS
    refine ⟨_, rfl, l, rfl, ⟨_, same_seqT s0 hM.tp⟩, ?_⟩
    refine for_tup (K := K) (a := l) (xs := ms.map fun p => V.ref p.1) (fun i σ H' => ∃ (v : Option V) (L : List (Addr × List Key)), σ = [some (.ref l), some (.int e), some (.ref S), v] ∧ Same H H' ∧ H' S = some (SetMO P w S L) ∧ (∀ p ∈ L, H' p.1 = some (.tup (p.2.map kV))) ∧
      (∀ x ∈ L, x.2 ∈ (ms.take i).map fun p => eK e p.2) ∧ L.length ≤ i) ⟨none, [], rfl, s0, upd_same, (fun p hp => by cases hp), (fun p hp => by cases hp), Nat.le_refl _⟩ (fun i σ H' _ ⟨_, _, _, S', _⟩ => same_seqT S' hM.tp) ?_ ?_
    · rintro i y σ H' hi ⟨v, L, rfl, S', hL, tup, sub, len⟩
      rw [List.getElem?_map] at hi
      obtain ⟨p, hp, rfl⟩ := Option.map_eq_some_iff.mp hi
      have pm := List.mem_of_getElem? hp
      have il : i < ms.length := (List.getElem?_eq_some_iff.mp hp).1
      have hit := same_seqT S' (hM.it p pm)
      have hat : atI (mvV p.2) e = some (.int (if e = 0 then (p.2.s : Int) else (p.2.t : Int))) := by
        rcases he with rfl | rfl <;> rfl
      have out : eK e p.2 ∉ L.map (·.2) := fun z => by
        obtain ⟨x, hx, ex⟩ := List.mem_map.mp z
        have y := sub x hx
        rw [show x.2 = eK e p.2 from ex] at y
        have n2 := nd
        rw [← List.take_append_drop i (ms.map fun p => eK e p.2)] at n2
        rw [← List.map_take] at n2
        refine (List.nodup_append.mp n2).2.2 _ y _ ?_ rfl
        rw [List.drop_eq_getElem_cons (by rw [List.length_map]; exact il)]
        rw [List.getElem_map]
        have e3 : ms[i] = p := by
          rw [List.getElem?_eq_getElem il] at hp
          exact Option.some.inj hp
        rw [e3]
        exact List.mem_cons_self
      refine ⟨_, rfl, p.1, _, _, _, rfl, rfl, hit, rfl, _, rfl, _, rfl, p.1, _, _, _, rfl, rfl, hit, hat, (by show 2 ≤ sizeLine; decide), fun q nq => ?_⟩
      obtain ⟨H1, e1⟩ : ∃ H1, H1 = upd H' q (.tup ((eK e p.2).map kV)) := ⟨_, rfl⟩
      have s1 : Same H' H1 := by rw [e1]; exact same_up nq
      have hS1 : H1 S = some (SetMO P w S L) := s1 _ _ hL
      have tup1 : ∀ x ∈ L, H1 x.1 = some (.tup (x.2.map kV)) := fun x hx => s1 _ _ (tup x hx)
      have hit1 := same_seqT s1 hit
      have hq1 : H1 q = some (.tup ((eK e p.2).map kV)) := by rw [e1]; exact upd_same
      have S1 := S'.trans s1
      have go : ∀ H1 : Hp, Same H H1 → H1 S = some (SetMO P w S L) → (∀ x ∈ L, H1 x.1 = some (.tup (x.2.map kV))) → SqT K H1 p.1 (mvV p.2) →
          ∀ q2, H1 q2 = none → ∀ L', (eK e p.2 ∈ L.map (·.2) → L' = L) → (eK e p.2 ∉ L.map (·.2) → L'.Perm ((q2, eK e p.2) :: L)) →
          ∃ (v : Option V) (L3 : List (Addr × List Key)), ([some (V.ref l), some (V.int e), some (V.ref S), some (V.ref p.1)] : List (Option V)) = [some (.ref l), some (.int e), some (.ref S), v] ∧ Same H (upd (upd H1 q2 (.tup ((eK e p.2).map kV))) S (SetMO P w S L')) ∧ (upd (upd H1 q2 (.tup ((eK e p.2).map kV))) S (SetMO P w S L')) S = some (SetMO P w S L3) ∧
            (∀ p_1 ∈ L3, (upd (upd H1 q2 (.tup ((eK e p.2).map kV))) S (SetMO P w S L')) p_1.1 = some (.tup (p_1.2.map kV))) ∧ (∀ x ∈ L3, x.2 ∈ (ms.take (i + 1)).map fun p => eK e p.2) ∧ L3.length ≤ i + 1 := by
        intro H1 S1 hS1 tup1 hit1 q2 nq2 L' _ c2
        have pm2 := c2 out
        have nSq : q2 ≠ S := (ne_of_none hS1 nq2).symm
        refine ⟨_, L', rfl, fun b o z => ?_, upd_same, fun x hx => ?_, fun x hx => ?_, ?_⟩
        · rw [upd_ne (ne_of_none z nS), upd_ne (ne_of_none (S1 _ _ z) nq2)]
          exact S1 _ _ z
        · rcases List.mem_cons.mp (pm2.mem_iff.mp hx) with z | z
          · rw [z]
            show upd (upd H1 q2 _) S _ q2 = _
            rw [upd_ne nSq]
            exact upd_same
          · have t := tup1 x z
            rw [upd_ne (ne_of t hS1 (fun y => by cases y)), upd_ne (ne_of_none t nq2)]
            exact t
        · rw [List.take_add_one, hp]
          rcases List.mem_cons.mp (pm2.mem_iff.mp hx) with z | z
          · rw [z]
            simp
          · have := sub x z
            simp only [List.map_append, List.mem_append]
            exact .inl this
        · rw [pm2.length_eq, List.length_cons]
          omega
      refine ⟨_, rfl, S, q, eK e p.2, L, rfl, rfl, ?_, ?_, ?_, fun b hb => ?_⟩
      · rw [e1] at hS1
        exact hS1
      · rw [e1] at tup1
        exact fun x hx => SqT.of (tup1 x hx)
      · exact SqT.of upd_same
      refine ⟨_, rfl, ?_⟩
      cases b with
      | true => exact absurd (hb.mp rfl) out
      | false =>
        refine iteF ?_
        rw [e1] at hS1 tup1 hit1 S1
        refine ⟨_, rfl, ⟨S, L, rfl, hS1⟩, _, rfl, p.1, _, _, _, rfl, rfl, hit1, rfl, _, rfl, _, rfl, p.1, _, _, _, rfl, rfl, hit1, hat, (by show 2 ≤ sizeLine; decide), fun q2 nq2 => ?_⟩
        have s2 := same_up (o := .tup ((eK e p.2).map kV)) nq2
        refine ⟨S, q2, eK e p.2, L, rfl, rfl, s2 _ _ hS1, fun x hx => SqT.of (s2 _ _ (tup1 x hx)), SqT.of upd_same, by omega, fun L' c1 c2 => ?_⟩
        exact go _ S1 hS1 tup1 hit1 q2 nq2 L' c1 c2
    · rintro σ H' ⟨v, L, rfl, S', _⟩
      exact k H' S'
end
end Vk
set_option Elab.async false
set_option linter.all false
set_option maxRecDepth 100000
set_option maxHeartbeats 4000000
namespace Vk
open PySem PySem.Spec PyProof.Rows L2 Vt
abbrev sReached : Stmt := top8 18
/-- the list at A of lists of ints -/
structure Rows (H : Hp) (A : Addr) (rs : List Addr) (f : Nat → List Nat) : Prop where
  top : H A = some (.lst (rs.map V.ref))
  nd : rs.Nodup
  row : ∀ i r, rs[i]? = some r → H r = some (.lst ((f i).map fun (x : Nat) => V.int (x : Int)))
  ne : A ∉ rs
def okD (fnd : List Nat) : List (Key × V) := fnd.map fun (i : Nat) => (.inl (i : Int), .bl true)
theorem go_name {i : Nat} {v : V} {σ : L2.St} {H : Hp} {Q : L2.St → Hp → Prop} (h : Q (σ.set i (some v)) H) : gName i v σ H Q := h
theorem go_seq {σ : L2.St} {H : Hp} {t u : TS} {D : Ends} (h : t { D with nx := u D } σ H) : tSeq t u D σ H := h
section
variable {P : Program} {w : World} {K : PySem.W.Frag} {mg : Str → Option Value} {base : Heap}
/-- pairs of states at sp; the answer: a dict of states, the first one among them, closed under the pairs -/
def spReached (K : PySem.W.Frag) : Sp := fun vs H Q _ => ∃ (n st : Nat) (sp : Addr) (ps : List (Addr × Nat × Nat)), vs = [.int (n : Int), .int (st : Int), .ref sp] ∧ SqL K H sp (ps.map fun p => V.ref p.1) ∧ (∀ p ∈ ps, SqT K H p.1 [.int (p.2.1 : Int), .int (p.2.2 : Int)]) ∧
  (∀ p ∈ ps, p.2.1 < n ∧ p.2.2 < n) ∧ st < n ∧ n ≤ 4000 ∧ ps.length ≤ 4000 ∧
  ∀ (d : Addr) (fnd : List Nat) (H' : Hp), Same H H' → H d = none → H' d = some (.dK (okD fnd)) → st ∈ fnd → (∀ p ∈ ps, p.2.1 ∈ fnd → p.2.2 ∈ fnd) → Q (.ref d) H'
theorem scR : FnScope ["size", "start", "steps", "ahead", "_", "source", "target", "found", "waiting", "state"] ["size", "start", "steps"] (defScope sReached) := ⟨rfl, rfl, rfl, by decide +kernel, rfl, by decide +kernel, by decide +kernel⟩
theorem ok_reached {f : Addr} {fd : FuncData} (F : Fun K "reached" "reached" sReached f fd) (T : Txt8 K mg) : FnOk P w K mg base CX0 1 f fd ["size", "start", "steps"] (spReached K) := by
  refine F.ok scR (fun vs H Q E h => ?_) (fun cdv A outer s H vs Q E hr h => ?_)
  · obtain ⟨n, st, sp, ps, rfl, _⟩ := h
    rfl
  · obtain ⟨n, st, sp, ps, rfl, hS, tup, lt, st0, nB, pB, k⟩ := h
    have hu := hu_of hr
    refine ⟨_, (pss_cons (ps_setLc (i := 3) (own := [("_", 4)]) (g := gName 4) (by rfl) scR.nd rfl rfl (sw_true rfl rfl rfl (by decide +kernel)) (pi_range1 (by rfl) T.rng (pa_cons (pv 0) pa_nil)) (blkOk_by (own := [("_", 4)]) (N := ["size", "start", "steps", "ahead", "_", "source", "target", "found", "waiting", "state"]) (sc := defScope sReached) (by decide +kernel)) (fun _ _ _ _ _ => (pg_name (i := 4) scR.nd rfl (.inl rfl))) (fun _ _ _ _ _ => pts_nil) (fun _ _ _ _ _ => (pe_lst pa_nil)))
        (pss_cons (ps_for PassesOwn.never rfl (pi_list (pv 2)) (pg_tup rfl (pgs_cons (pg_name (i := 5) scR.nd rfl (.inl rfl)) (pgs_cons (pg_name (i := 6) scR.nd rfl (.inl rfl)) pgs_nil))) (pss_one (ps_expr (pe_bm PySem.F.plainAttrs_list PySem.F.slot_list_append PySem.F.type_list_append mt_append (pe_ix ix_list (pv 3) (pv 5) (fun _ _ => rfl)) (pa_cons (pv 6) pa_nil)))))
        (pss_cons (ps_set (i := 7) scR.nd rfl (.inl rfl) (pe_disp (pps_cons (pv 1) pe_bl pps_nil) (by rfl) (by rfl) (fun z => by cases z) (by decide)))
        (pss_cons (ps_set (i := 8) scR.nd rfl (.inl rfl) (pe_lst (pa_cons (pv 1) pa_nil)))
        (pss_cons (ps_while PassesOwn.never (pt_truth (pv 8) (by intro _; rfl)) (pss_cons (ps_set (i := 9) scR.nd rfl (.inl rfl) (pe_bm0 PySem.F.plainAttrs_list PySem.F.slot_list_pop PySem.F.type_list_pop mt_pop (pv 8)))
        (pss_one (ps_for PassesOwn.never rfl (pi_list (pe_ix ix_list (pv 3) (pv 9) (fun _ _ => rfl))) (pg_name (i := 6) scR.nd rfl (.inl rfl)) (pss_one (ps_if (pt_cmp (pc_dnotin hu (pv 6) (pv 7))) (pss_cons (ps_dput hu (pv 7) (pv 6) pe_bl rfl)
        (pss_one (ps_expr (pe_bm PySem.F.plainAttrs_list PySem.F.slot_list_append PySem.F.type_list_append mt_append (pv 8) (pa_cons (pv 6) pa_nil))))) pss_nil))))))
        (pss_one (ps_ret (pv 7)))))))), ?_⟩
    refine ⟨_, rfl, (n : Int), rfl, by omega, by omega, fun A nA => ?_⟩
    rw [Int.toNat_natCast]
    refine lc_range (lo := 0) (n := n) (fun i H' => ∃ rs : List Addr, rs.length = i ∧ Same H H' ∧ H' A = some (.lst (rs.map V.ref)) ∧ rs.Nodup ∧ A ∉ rs ∧ ∀ r ∈ rs, H' r = some (.lst []) ∧ H r = none) ⟨[], rfl, same_up nA, upd_same, List.nodup_nil, (fun z => by cases z), (fun r z => by cases z)⟩ ?_ ?_
    · rintro i H' hi ⟨rs, e, S', hA, nd, ne, row⟩
      refine ⟨rfl, ?_⟩
      refine ⟨Nat.zero_le _, fun r nr => ?_⟩
      have nAr : A ≠ r := ne_of_none hA nr
      have nr0 : H r = none := S'.free nr
      refine ⟨rs.map V.ref, by rw [upd_ne nAr]; exact hA, by rw [List.length_map, e, sizeLine_eq]; omega, rs ++ [r], by rw [List.length_append, e] <;> rfl, fun b o z => ?_, by rw [upd_same, List.map_append] <;> rfl, ?_, ?_, fun q hq => ?_⟩
      · rw [upd_ne (ne_of_none z nA), upd_ne (ne_of_none z nr0)]
        exact S' _ _ z
      · refine List.nodup_append.mpr ⟨nd, List.nodup_cons.mpr ⟨(fun z => by cases z), List.nodup_nil⟩, fun a ha b hb => ?_⟩
        rw [List.mem_singleton.mp hb]
        exact ne_of_none (row a ha).1 nr
      · exact fun z => (List.mem_append.mp z).elim ne fun y => nAr (List.mem_singleton.mp y)
      · rcases List.mem_append.mp hq with z | z
        · have y := (row q z).1
          refine ⟨?_, (row q z).2⟩
          rw [upd_ne (fun (x : q = A) => ne (by rw [← x]; exact z)), upd_ne (ne_of_none y nr)]
          exact y
        · rw [List.mem_singleton.mp z]
          exact ⟨by rw [upd_ne nAr.symm]; exact upd_same, nr0⟩
    · rintro H1 ⟨rs, ers, S1, hA, nd, ne, row⟩
      have h0 : Rows H1 A rs fun _ => [] := ⟨hA, nd, fun i r z => (row r (List.mem_of_getElem? z)).1, ne⟩
      have old : ∀ r ∈ rs, H r = none := fun r z => (row r z).2
      clear row hA
      refine ⟨_, rfl, sp, rfl, ⟨_, S1.seq hS⟩, ?_⟩
      -- for source, target in steps
      refine for_list (K := K) (a := sp) (xs := ps.map fun p => V.ref p.1) (fun i σ H' => ∃ (v1 v2 : Option V) (f : Nat → List Nat), σ = [some (.int (n : Int)), some (.int (st : Int)), some (.ref sp), some (.ref A), none, v1, v2, none, none, none] ∧ Same H H' ∧ Rows H' A rs f ∧
        (∀ j x, x ∈ f j ↔ ∃ p ∈ ps.take i, p.2 = (j, x)) ∧ ∀ j, (f j).length ≤ i) ⟨none, none, fun _ => [], rfl, S1, h0, (fun j x => by simp), fun j => Nat.zero_le _⟩ (fun i σ H' _ ⟨_, _, _, _, S', _⟩ => S'.seq hS) ?_ ?_
      · rintro i y σ H' hi ⟨v1, v2, f, rfl, S', R, mem, len⟩
        rw [List.getElem?_map] at hi
        obtain ⟨p, hp, rfl⟩ := Option.map_eq_some_iff.mp hi
        have pm := List.mem_of_getElem? hp
        obtain ⟨q, a, b⟩ := p
        have hit := same_seqT S' (tup _ pm)
        have la : a < n := (lt _ pm).1
        have lb : b < n := (lt _ pm).2
        have al : a < rs.length := by omega
        obtain ⟨r, hr1⟩ : ∃ r, rs[a]? = some r := ⟨_, List.getElem?_eq_getElem al⟩
        have hrow := R.row a r hr1
        have hat : atI (rs.map V.ref) (a : Int) = some (.ref r) := atI_nat (by rw [List.getElem?_map, hr1] <;> rfl)
        have rm := List.mem_of_getElem? hr1
        refine ⟨q, _, rfl, hit, rfl, ?_⟩
        refine ⟨_, _, rfl, _, _, rfl, rfl, ?_⟩
        refine ⟨_, rfl, _, rfl, A, _, _, _, rfl, rfl, SqL.of R.top, hat, ?_⟩
        have nAr : A ≠ r := fun z => R.ne (by rw [z]; exact rm)
        have fl := len a
        have il : i < ps.length := (List.getElem?_eq_some_iff.mp hp).1
        refine ⟨.inl ⟨rfl, _, SqL.of hrow⟩, _, rfl, r, _, _, rfl, rfl, hrow, by rw [List.length_map, sizeLine_eq]; omega, _, _, fun j => if j = a then f a ++ [b] else f j, rfl, fun c o z => ?_, ⟨?_, R.nd, fun j r' hj => ?_, R.ne⟩, fun j x => ?_, fun j => ?_⟩
        · rw [upd_ne (ne_of_none z (old r rm))]
          exact S' _ _ z
        · rw [upd_ne nAr]
          exact R.top
        · show _ = some (HO.lst ((if j = a then f a ++ [b] else f j).map fun (x : Nat) => V.int (x : Int)))
          by_cases e : j = a
          · subst e
            rw [hr1] at hj
            cases hj
            rw [upd_same]
            simp
          · have ne2 : r' ≠ r := fun z => e ((List.getElem?_inj (List.getElem?_eq_some_iff.mp hj).1 R.nd).mp (by rw [hj, hr1, z]))
            rw [upd_ne ne2, if_neg e]
            exact R.row j r' hj
        · rw [List.take_add_one, hp]
          show x ∈ (if j = a then f a ++ [b] else f j) ↔ _
          by_cases e : j = a
          · subst e
            rw [if_pos rfl, List.mem_append, mem j x]
            simp only [Option.toList, List.mem_append, List.mem_singleton]
            constructor
            · rintro (⟨p, z, y⟩ | rfl)
              · exact ⟨p, .inl z, y⟩
              · exact ⟨_, .inr rfl, rfl⟩
            · rintro ⟨p, z | rfl, y⟩
              · exact .inl ⟨p, z, y⟩
              · exact .inr (congrArg Prod.snd y).symm
          · rw [if_neg e, mem j x]
            simp only [Option.toList, List.mem_append, List.mem_singleton]
            constructor
            · rintro ⟨p, z, y⟩
              exact ⟨p, .inl z, y⟩
            · rintro ⟨p, z | rfl, y⟩
              · exact ⟨p, z, y⟩
              · exact absurd (congrArg Prod.fst y).symm e
        · show (if j = a then f a ++ [b] else f j).length ≤ i + 1
          by_cases e : j = a
          · rw [if_pos e, List.length_append]
            show (f a).length + 1 ≤ i + 1
            omega
          · rw [if_neg e]
            exact Nat.le_succ_of_le (len j)
      · rintro σ H' ⟨v1, v2, f, rfl, S', R, mem, len⟩
        rw [List.length_map, List.take_length] at mem
        rw [List.length_map] at len
        have fB : ∀ j x, x ∈ f j → x < n := fun j x hx => by
          obtain ⟨p, hp, e⟩ := (mem j x).mp hx
          have := (lt p hp).2
          rw [e] at this
          exact this
        refine fun F nF => ⟨_, rfl, upd_same, [(.inl (st : Int), .bl true)], rfl, by show 1 ≤ 15; decide, ?_⟩
        refine ⟨_, rfl, by show 1 ≤ sizeLine; decide, fun W nW => ?_⟩
        rw [upd_upd] at nW ⊢
        have nF0 : H F = none := S'.free nF
        have nFW : F ≠ W := ne_of_none upd_same nW
        have nW1 : H' W = none := by rw [upd_ne nFW.symm] at nW; exact nW
        have nW0 : H W = none := S'.free nW1
        have aF : A ≠ F := ne_of_none R.top nF
        have aW : A ≠ W := ne_of_none R.top nW1
        have rF : F ∉ rs := fun z => by
          obtain ⟨i, hi, e⟩ := List.getElem_of_mem z
          have := R.row i F (by rw [List.getElem?_eq_getElem hi, e])
          rw [nF] at this
          cases this
        have rW : W ∉ rs := fun z => by
          obtain ⟨i, hi, e⟩ := List.getElem_of_mem z
          have := R.row i W (by rw [List.getElem?_eq_getElem hi, e])
          rw [nW1] at this
          cases this
        have keepR : ∀ {G : Hp} {o : HO} {q : Addr}, (q = F ∨ q = W) → Rows G A rs f → Rows (upd G q o) A rs f := fun {G o q} hq y => by
          have n1 : A ≠ q := by rcases hq with z | z <;> rw [z] <;> assumption
          have n2 : q ∉ rs := by rcases hq with z | z <;> rw [z] <;> assumption
          exact ⟨by rw [upd_ne n1]; exact y.top, y.nd, fun i r z => by rw [upd_ne (fun (e : r = q) => n2 (by rw [← e]; exact List.mem_of_getElem? z))]; exact y.row i r z, y.ne⟩
        have keepS : ∀ {G : Hp} {o : HO} {q : Addr}, (q = F ∨ q = W) → Same H G → Same H (upd G q o) := fun {G o q} hq y => by
          have n0 : H q = none := by rcases hq with z | z <;> rw [z] <;> assumption
          intro c u z
          rw [upd_ne (ne_of_none z n0)]
          exact y _ _ z
        have okN : ∀ {fnd : List Nat} (t : Nat), (valV (okD fnd) (Sum.inl (t : Int) : Key) = none → t ∉ fnd) ∧ (∀ v, valV (okD fnd) (Sum.inl (t : Int) : Key) = some v → t ∈ fnd) := fun {fnd} t => by
          induction fnd with
          | nil => exact ⟨fun _ z => (by cases z), fun v z => (by cases z)⟩
          | cons x fnd ih =>
            have e0 : okD (x :: fnd) = ((Sum.inl (x : Int) : Key), V.bl true) :: okD fnd := rfl
            rw [e0]
            unfold valV
            rw [List.find?_cons]
            by_cases e : x = t
            · subst e
              simp
            · have ne1 : decide ((Sum.inl (x : Int) : Key) = Sum.inl (t : Int)) = false := decide_eq_false fun z => e (Int.ofNat.inj (Sum.inl.inj z))
              rw [ne1]
              refine ⟨fun z y => ?_, fun v z => .tail _ (ih.2 v z)⟩
              rcases List.mem_cons.mp y with y | y
              · exact e y.symm
              · exact ih.1 z y
        have bound : ∀ {fnd : List Nat}, fnd.Nodup → (∀ x ∈ fnd, x < n) → fnd.length ≤ n := fun {fnd} h1 h2 => by
          have := nat_nodup_len fnd (List.range n) h1 fun x hx => List.mem_range.mpr (h2 x hx)
          rw [List.length_range] at this
          exact this
        have mk : mergeK [] [((Sum.inl (st : Int) : Key), V.bl true)] = okD [st] := rfl
        rw [mk]
        refine go_name ?_
        dsimp only
        refine go_seq ?_
        refine while_by (fun σ G => ∃ (v1 v2 v3 : Option V) (fnd wait : List Nat), σ = [some (.int (n : Int)), some (.int (st : Int)), some (.ref sp), some (.ref A), none, v1, v2, some (.ref F), some (.ref W), v3] ∧ Same H G ∧ Rows G A rs f ∧ G F = some (.dK (okD fnd)) ∧ G W = some (.lst (wait.map fun (x : Nat) => V.int (x : Int))) ∧
          fnd.Nodup ∧ (∀ x ∈ fnd, x < n) ∧ (∀ x ∈ wait, x ∈ fnd) ∧ st ∈ fnd ∧ wait.length ≤ fnd.length ∧ ∀ a ∈ fnd, a ∈ wait ∨ ∀ b ∈ f a, b ∈ fnd)
          (fun _ G => match G W, G F with | some (.lst xs), some (.dK kvs) => xs.length + (n - kvs.length) | _, _ => 0)
          ⟨v1, v2, none, [st], [st], rfl, keepS (.inr rfl) (keepS (.inl rfl) S'), keepR (.inr rfl) (keepR (.inl rfl) R), by rw [upd_ne nFW]; exact upd_same, upd_same, List.nodup_cons.mpr ⟨(fun z => by cases z), List.nodup_nil⟩, (fun x hx => by rw [List.mem_singleton.mp hx]; exact st0), (fun x hx => hx), List.mem_cons_self, Nat.le_refl _, fun a ha => .inl ha⟩ ?_ ?_
        · rintro σ G ⟨v1, v2, v3, fnd, wait, rfl, SG, RG, hF, hW, nd, ltn, sub, stf, wl, cl⟩
          rcases List.eq_nil_or_concat wait with e | ⟨w0, x, e⟩
          · subst e
            refine ⟨_, rfl, false, .inl ⟨_, SqL.of hW, rfl⟩, ?_⟩
            refine iteF ?_
            refine ⟨_, rfl, k F fnd G SG nF0 hF stf fun p hp hx => ?_⟩
            rcases cl _ hx with z | z
            · cases z
            · exact z _ ((mem _ _).mpr ⟨p, hp, rfl⟩)
          · rw [List.concat_eq_append] at e
            subst e
            have hxn : x ∈ fnd := sub x (List.mem_append_right _ (List.mem_singleton.mpr rfl))
            have xl : x < n := ltn x hxn
            obtain ⟨r, hr1⟩ : ∃ r, rs[x]? = some r := ⟨_, List.getElem?_eq_getElem (by omega)⟩
            have rm := List.mem_of_getElem? hr1
            have hat : atI (rs.map V.ref) (x : Int) = some (.ref r) := atI_nat (by rw [List.getElem?_map, hr1] <;> rfl)
            have dl : ((w0 ++ [x]).map fun (x : Nat) => V.int (x : Int)).dropLast = w0.map fun (x : Nat) => V.int (x : Int) := by
              rw [List.map_append]
              exact List.dropLast_concat
            refine ⟨_, rfl, true, .inl ⟨_, SqL.of hW, by simp⟩, ?_⟩
            refine iteT ?_
            refine ⟨_, rfl, .inl ⟨rfl, _, SqL.of hW⟩, W, _, .int (x : Int), rfl, rfl, hW, by simp, ?_⟩
            rw [dl]
            have G1 : Same H (upd G W (.lst (w0.map fun (x : Nat) => V.int (x : Int)))) := keepS (.inr rfl) SG
            have R1 := keepR (o := .lst (w0.map fun (x : Nat) => V.int (x : Int))) (.inr rfl) RG
            have nrW : r ≠ W := fun z => rW (by rw [← z]; exact rm)
            have nrF : r ≠ F := fun z => rF (by rw [← z]; exact rm)
            refine ⟨_, rfl, _, rfl, A, _, _, _, rfl, rfl, SqL.of R1.top, hat, r, rfl, ⟨_, SqL.of (R1.row x r hr1)⟩, ?_⟩
            have okl : ∀ l : List Nat, (okD l).length = l.length := fun l => List.length_map _
            refine for_list (K := K) (a := r) (xs := (f x).map fun (x : Nat) => V.int (x : Int)) (fun j σ G' => ∃ (v1 v2 : Option V) (fd wt : List Nat), σ = [some (.int (n : Int)), some (.int (st : Int)), some (.ref sp), some (.ref A), none, v1, v2, some (.ref F), some (.ref W), some (.int (x : Int))] ∧
              Same H G' ∧ Rows G' A rs f ∧ G' F = some (.dK (okD fd)) ∧ G' W = some (.lst (wt.map fun (x : Nat) => V.int (x : Int))) ∧ fd.Nodup ∧ (∀ x ∈ fd, x < n) ∧ (∀ x ∈ wt, x ∈ fd) ∧ st ∈ fd ∧ wt.length ≤ fd.length ∧ (∀ a ∈ fd, a = x ∨ a ∈ wt ∨ ∀ b ∈ f a, b ∈ fd) ∧ x ∈ fd ∧ (∀ b ∈ (f x).take j, b ∈ fd) ∧
              wt.length + (n - fd.length) < (w0 ++ [x]).length + (n - fnd.length))
              ⟨v1, v2, fnd, w0, rfl, G1, R1, by rw [upd_ne nFW]; exact hF, upd_same, nd, ltn, (fun y hy => sub y (List.mem_append_left _ hy)), stf, (by rw [List.length_append] at wl; omega), (fun a ha => by
                rcases cl a ha with z | z
                · rcases List.mem_append.mp z with y | y
                  · exact .inr (.inl y)
                  · exact .inl (List.mem_singleton.mp y)
                · exact .inr (.inr z)), hxn, (fun b hb => by simp at hb), by rw [List.length_append]; show w0.length + _ < w0.length + 1 + _; omega⟩
              (fun j σ G' _ ⟨_, _, _, _, _, _, RG', _⟩ => SqL.of (RG'.row x r hr1)) ?_ ?_
            · rintro j y σ G' hj ⟨v1, v2, fd, wt, rfl, SG', RG', hF', hW', nd', ltn', sub', stf', wl', cl', hx', tk, ms⟩
              rw [List.getElem?_map] at hj
              obtain ⟨t, ht, rfl⟩ := Option.map_eq_some_iff.mp hj
              have tn : t < n := fB x t (List.mem_of_getElem? ht)
              have tk1 : (f x).take (j + 1) = (f x).take j ++ [t] := by rw [List.take_add_one, ht] <;> rfl
              have fb := bound nd' ltn'
              refine ⟨_, rfl, _, rfl, F, _, rfl, DGet.k (k := Sum.inl (t : Int)) hF', _, rfl, ?_⟩
              cases e : valV (okD fd) (Sum.inl (t : Int) : Key) with
              | some v =>
                refine iteF ?_
                refine ⟨v1, _, fd, wt, rfl, SG', RG', hF', hW', nd', ltn', sub', stf', wl', cl', hx', fun b hb => ?_, ms⟩
                rw [tk1] at hb
                rcases List.mem_append.mp hb with z | z
                · exact tk b z
                · rw [List.mem_singleton.mp z]
                  exact (okN t).2 v e
              | none =>
                have tf := (okN t).1 e
                refine iteT ?_
                have pk : putK (okD fd) (Sum.inl (t : Int) : Key) (V.bl true) = okD (fd ++ [t]) := by
                  rw [putK_new _ e]
                  unfold okD
                  rw [List.map_append] <;> rfl
                have nd2 : (fd ++ [t]).Nodup := List.nodup_append.mpr ⟨nd', List.nodup_cons.mpr ⟨(fun z => by cases z), List.nodup_nil⟩, fun a ha b hb z => tf (by rw [← List.mem_singleton.mp hb, ← z]; exact ha)⟩
                have lt2 : ∀ y ∈ fd ++ [t], y < n := fun y hy => (List.mem_append.mp hy).elim (ltn' y) fun z => by rw [List.mem_singleton.mp z]; exact tn
                have fb2 := bound nd2 lt2
                rw [List.length_append] at fb2
                have fb3 : fd.length + 1 ≤ n := fb2
                refine ⟨_, rfl, _, rfl, F, _, rfl, DPut.k (k := Sum.inl (t : Int)) hF' (by rw [okl, sizeLine_eq]; omega), ?_⟩
                rw [pk]
                have hW2 : (upd G' F (.dK (okD (fd ++ [t])))) W = some (.lst (wt.map fun (x : Nat) => V.int (x : Int))) := by rw [upd_ne nFW.symm]; exact hW'
                refine ⟨_, rfl, .inl ⟨rfl, _, SqL.of hW2⟩, _, rfl, W, _, _, rfl, rfl, hW2, by rw [List.length_map, sizeLine_eq]; omega, v1, _, fd ++ [t], wt ++ [t], rfl, keepS (.inr rfl) (keepS (.inl rfl) SG'), keepR (.inr rfl) (keepR (.inl rfl) RG'), by rw [upd_ne nFW]; exact upd_same,
                  by rw [upd_same, List.map_append] <;> rfl, nd2, lt2, fun y hy => ?_, List.mem_append_left _ stf', by rw [List.length_append, List.length_append]; exact Nat.succ_le_succ wl', fun a ha => ?_, List.mem_append_left _ hx', fun b hb => ?_, ?_⟩
                · rcases List.mem_append.mp hy with z | z
                  · exact List.mem_append_left _ (sub' y z)
                  · exact List.mem_append_right _ z
                · rcases List.mem_append.mp ha with z | z
                  · rcases cl' a z with q | q | q
                    · exact .inl q
                    · exact .inr (.inl (List.mem_append_left _ q))
                    · exact .inr (.inr fun b hb => List.mem_append_left _ (q b hb))
                  · exact .inr (.inl (List.mem_append_right _ z))
                · rw [tk1] at hb
                  rcases List.mem_append.mp hb with z | z
                  · exact List.mem_append_left _ (tk b z)
                  · exact List.mem_append_right _ z
                · rw [List.length_append, List.length_append]
                  show wt.length + 1 + (n - (fd.length + 1)) < _
                  omega
            · rintro σ G' ⟨v1, v2, fd, wt, rfl, SG', RG', hF', hW', nd', ltn', sub', stf', wl', cl', hx', tk, ms⟩
              rw [List.length_map, List.take_length] at tk
              refine ⟨⟨v1, v2, _, fd, wt, rfl, SG', RG', hF', hW', nd', ltn', sub', stf', wl', fun a ha => ?_⟩, ?_⟩
              · rcases cl' a ha with q | q | q
                · rw [q]
                  exact .inr tk
                · exact .inl q
                · exact .inr q
              · rw [hW', hF', hW, hF]
                show (wt.map _).length + (n - (okD fd).length) < ((w0 ++ [x]).map _).length + (n - (okD fnd).length)
                rw [okl, okl, List.length_map, List.length_map]
                exact ms
        · intro σ G Q1 Q2 h ⟨v, e, c, t, q⟩
          exact ⟨v, e, c, t, h _ _ q⟩
end
end Vk
set_option Elab.async false
set_option linter.all false
set_option maxRecDepth 100000
set_option maxHeartbeats 4000000
namespace Vk
open PySem PySem.Spec PyProof.Rows L2 Vt
abbrev sPaths : Stmt := top8 17
abbrev sCheck : Stmt := top8 12
/-- from st all n states are come to -/
def Conn (n st : Nat) (es : List (Nat × Nat)) : Prop := ∀ S : List Nat, st ∈ S → (∀ e ∈ es, e.1 ∈ S → e.2 ∈ S) → ∀ x, x < n → x ∈ S
def fw (ms : List (Addr × Mv)) : List (Nat × Nat) := ms.map fun p => (p.2.s, p.2.t)
def bw (ms : List (Addr × Mv)) : List (Nat × Nat) := ms.map fun p => (p.2.t, p.2.s)
theorem val_okD {fnd : List Nat} {t : Nat} (h : t ∈ fnd) : ∃ v, valV (okD fnd) (Sum.inl (t : Int) : Key) = some v := by
  induction fnd with
  | nil => cases h
  | cons x fnd ih =>
    have e0 : okD (x :: fnd) = ((Sum.inl (x : Int) : Key), V.bl true) :: okD fnd := rfl
    rw [e0]
    unfold valV
    rw [List.find?_cons]
    by_cases e : x = t
    · subst e
      exact ⟨.bl true, by simp⟩
    · have ne1 : decide ((Sum.inl (x : Int) : Key) = Sum.inl (t : Int)) = false := decide_eq_false fun z => e (Int.ofNat.inj (Sum.inl.inj z))
      rw [ne1]
      exact ih ((List.mem_cons.mp h).elim (fun z => absurd z.symm e) id)
section
variable {P : Program} {w : World} {K : PySem.W.Frag} {mg : Str → Option Value} {base : Heap}
def spPaths (K : PySem.W.Frag) : Sp := fun vs H Q _ => ∃ (n st la : Nat) (l : Addr) (ms : List (Addr × Mv)), vs = [.int (n : Int), .int (st : Int), .int (la : Int), .ref l] ∧ MvsAt K H l ms ∧ (∀ p ∈ ms, OkMv n p.2) ∧ st < n ∧ la < n ∧ n ≤ 4000 ∧ ms.length ≤ 4000 ∧
  Conn n st (fw ms) ∧ Conn n la (bw ms) ∧ ∀ H', Same H H' → Q .non H'
theorem scP : FnScope ["size", "first", "last", "moves", "ahead", "move", "behind", "state"] ["size", "first", "last", "moves"] (defScope sPaths) := ⟨rfl, rfl, rfl, by decide +kernel, rfl, by decide +kernel, by decide +kernel⟩
theorem ok_paths {f fR : Addr} {fd fdR : FuncData} (F : Fun K "check_paths" "check_paths" sPaths f fd) (T : Txt8 K mg) (FR : Fun K "reached" "reached" sReached fR fdR) (gR : mg "reached" = some (.ref fR)) (bR : Binds K fdR ["size", "start", "steps"] []) :
    FnOk P w K mg base CX0 2 f fd ["size", "first", "last", "moves"] (spPaths K) := by
  have GR : FnOk P w K mg base CX0 1 fR fdR ["size", "start", "steps"] (spReached K) := ok_reached FR T
  refine F.ok scP (fun vs H Q E h => ?_) (fun cdv A outer s H vs Q E hr h => ?_)
  · obtain ⟨n, st, la, l, ms, rfl, _⟩ := h
    rfl
  · obtain ⟨n, st, la, l, ms, rfl, hM, ok, st0, la0, nB, mB, cf, cb, k⟩ := h
    have hu := hu_of hr
    refine ⟨_, (pss_cons (ps_set (i := 4) scP.nd rfl (.inl rfl) (pe_call GR hr rfl gR FR.kp bR .nil pass0 (pa_cons (pv 0) (pa_cons (pv 1) (pa_cons (pe_lc (own := [("move", 5)]) (g := gName 5) (by rfl) scP.nd (pi_tup (pv 3)) (blkOk_by (own := [("move", 5)]) (N := ["size", "first", "last", "moves", "ahead", "move", "behind", "state"]) (sc := defScope sPaths) (by decide +kernel)) (fun _ _ _ _ _ => (pg_name (i := 5) scP.nd rfl (.inl rfl))) (fun _ _ _ _ _ => pts_nil) (fun _ _ _ _ _ => (pe_tup (pa_cons (pe_ix (r := rIxT K) ix_tup (pv 5) pe_int (fun _ _ => rfl)) (pa_cons (pe_ix (r := rIxT K) ix_tup (pv 5) pe_int (fun _ _ => rfl)) pa_nil))))) pa_nil)))))
        (pss_cons (ps_set (i := 6) scP.nd rfl (.inl rfl) (pe_call GR hr rfl gR FR.kp bR .nil pass0 (pa_cons (pv 0) (pa_cons (pv 2) (pa_cons (pe_lc (own := [("move", 5)]) (g := gName 5) (by rfl) scP.nd (pi_tup (pv 3)) (blkOk_by (own := [("move", 5)]) (N := ["size", "first", "last", "moves", "ahead", "move", "behind", "state"]) (sc := defScope sPaths) (by decide +kernel)) (fun _ _ _ _ _ => (pg_name (i := 5) scP.nd rfl (.inl rfl))) (fun _ _ _ _ _ => pts_nil) (fun _ _ _ _ _ => (pe_tup (pa_cons (pe_ix (r := rIxT K) ix_tup (pv 5) pe_int (fun _ _ => rfl)) (pa_cons (pe_ix (r := rIxT K) ix_tup (pv 5) pe_int (fun _ _ => rfl)) pa_nil))))) pa_nil)))))
        (pss_one (ps_for PassesOwn.never rfl (pi_range1 (by rfl) T.rng (pa_cons (pv 0) pa_nil)) (pg_name (i := 7) scP.nd rfl (.inl rfl)) (pss_one (ps_if (PW.pt (pw_or (pt_cmp (pc_dnotin hu (pv 7) (pv 4))) (pw_or1 (pt_cmp (pc_dnotin hu (pv 7) (pv 6)))))) (pss_one ps_never) pss_nil)))))), ?_⟩
    refine ⟨_, rfl, _, rfl, _, rfl, l, rfl, ⟨_, hM.tp⟩, fun D nD => ?_⟩
    refine lc_tup (K := K) (a := l) (xs := ms.map fun p => V.ref p.1) (fun i H' => ∃ qs : List (Addr × Nat × Nat), qs.map (·.2) = (fw ms).take i ∧ Same H H' ∧ H' D = some (.lst (qs.map fun p => V.ref p.1)) ∧ ∀ p ∈ qs, H' p.1 = some (.tup [.int (p.2.1 : Int), .int (p.2.2 : Int)]))
      ⟨[], rfl, same_up nD, upd_same, fun p z => by cases z⟩ (fun i H' _ ⟨_, _, S', _⟩ => same_seqT S' hM.tp) ?_ ?_
    · rintro i y H' hi ⟨qs, eq, S', hD, rows⟩
      rw [List.getElem?_map] at hi
      obtain ⟨p, hp, rfl⟩ := Option.map_eq_some_iff.mp hi
      have hit := same_seqT S' (hM.it p (List.mem_of_getElem? hp))
      have il : i < ms.length := (List.getElem?_eq_some_iff.mp hp).1
      have ql : qs.length ≤ i := by
        have := congrArg List.length eq
        rw [List.length_map, List.length_take] at this
        omega
      refine ⟨rfl, _, rfl, p.1, _, _, _, rfl, rfl, hit, rfl, _, rfl, p.1, _, _, _, rfl, rfl, hit, rfl, (by show 2 ≤ sizeLine; decide), fun q nq => ?_⟩
      have nDq : D ≠ q := ne_of_none hD nq
      refine ⟨qs.map fun p => V.ref p.1, by rw [upd_ne nDq]; exact hD, by rw [List.length_map, sizeLine_eq]; omega, qs ++ [(q, p.2.s, p.2.t)], ?_, fun c o z => ?_, by rw [upd_same, List.map_append] <;> rfl, fun r hr => ?_⟩
      · rw [List.map_append, eq, List.take_add_one]
        unfold fw
        rw [List.getElem?_map, hp] <;> rfl
      · rw [upd_ne (ne_of_none z nD)]
        exact same_up nq _ _ (S' _ _ z)
      · rcases List.mem_append.mp hr with z | z
        · have y := rows r z
          rw [upd_ne (ne_of y hD (fun x => by cases x)), upd_ne (ne_of_none y nq)]
          exact y
        · rw [List.mem_singleton.mp z, upd_ne nDq.symm]
          exact upd_same
    · rintro H1 ⟨qs, eq, S1, hD, rows⟩
      rw [List.length_map, show ms.length = (fw ms).length from (List.length_map _).symm, List.take_length] at eq
      have inq : ∀ {p : Addr × Nat × Nat}, p ∈ qs → p.2 ∈ fw ms := fun {p} hp => by rw [← eq]; exact List.mem_map.mpr ⟨p, hp, rfl⟩
      have qok : ∀ p ∈ qs, p.2.1 < n ∧ p.2.2 < n := fun p hp => by
        obtain ⟨m, hm, e⟩ := List.mem_map.mp (inq hp)
        rw [← e]
        exact ⟨(ok m hm).1, (ok m hm).2.1⟩
      have ql : qs.length ≤ 4000 := by
        have := congrArg List.length eq
        rw [List.length_map] at this
        unfold fw at this
        rw [List.length_map] at this
        omega
      refine ⟨n, st, D, qs, rfl, SqL.of hD, fun p hp => SqT.of (rows p hp), qok, st0, nB, ql, fun d1 f1 H2 S2 nd1 hd1 st1 c1 => ?_⟩
      have S12 := S1.trans S2
      have hM2 : MvsAt K H2 l ms := ⟨same_seqT S12 hM.tp, fun p hp => same_seqT S12 (hM.it p hp)⟩
      refine ⟨_, rfl, _, rfl, _, rfl, l, rfl, ⟨_, hM2.tp⟩, fun E2 nE => ?_⟩
      refine lc_tup (K := K) (a := l) (xs := ms.map fun p => V.ref p.1) (fun i H' => ∃ qs : List (Addr × Nat × Nat), qs.map (·.2) = (bw ms).take i ∧ Same H2 H' ∧ H' E2 = some (.lst (qs.map fun p => V.ref p.1)) ∧ ∀ p ∈ qs, H' p.1 = some (.tup [.int (p.2.1 : Int), .int (p.2.2 : Int)]))
        ⟨[], rfl, same_up nE, upd_same, fun p z => by cases z⟩ (fun i H' _ ⟨_, _, S', _⟩ => same_seqT S' hM2.tp) ?_ ?_
      · rintro i y H' hi ⟨qs, eq, S', hD, rows⟩
        rw [List.getElem?_map] at hi
        obtain ⟨p, hp, rfl⟩ := Option.map_eq_some_iff.mp hi
        have hit := same_seqT S' (hM2.it p (List.mem_of_getElem? hp))
        have il : i < ms.length := (List.getElem?_eq_some_iff.mp hp).1
        have ql : qs.length ≤ i := by
          have := congrArg List.length eq
          rw [List.length_map, List.length_take] at this
          omega
        refine ⟨rfl, _, rfl, p.1, _, _, _, rfl, rfl, hit, rfl, _, rfl, p.1, _, _, _, rfl, rfl, hit, rfl, (by show 2 ≤ sizeLine; decide), fun q nq => ?_⟩
        have nDq : E2 ≠ q := ne_of_none hD nq
        refine ⟨qs.map fun p => V.ref p.1, by rw [upd_ne nDq]; exact hD, by rw [List.length_map, sizeLine_eq]; omega, qs ++ [(q, p.2.t, p.2.s)], ?_, fun c o z => ?_, by rw [upd_same, List.map_append] <;> rfl, fun r hr => ?_⟩
        · rw [List.map_append, eq, List.take_add_one]
          unfold bw
          rw [List.getElem?_map, hp] <;> rfl
        · rw [upd_ne (ne_of_none z nE)]
          exact same_up nq _ _ (S' _ _ z)
        · rcases List.mem_append.mp hr with z | z
          · have y := rows r z
            rw [upd_ne (ne_of y hD (fun x => by cases x)), upd_ne (ne_of_none y nq)]
            exact y
          · rw [List.mem_singleton.mp z, upd_ne nDq.symm]
            exact upd_same
      · rintro H3 ⟨qs2, eq2, S3, hE, rows2⟩
        rw [List.length_map, show ms.length = (bw ms).length from (List.length_map _).symm, List.take_length] at eq2
        have inq2 : ∀ {p : Addr × Nat × Nat}, p ∈ qs2 → p.2 ∈ bw ms := fun {p} hp => by rw [← eq2]; exact List.mem_map.mpr ⟨p, hp, rfl⟩
        have qok2 : ∀ p ∈ qs2, p.2.1 < n ∧ p.2.2 < n := fun p hp => by
          obtain ⟨m, hm, e⟩ := List.mem_map.mp (inq2 hp)
          rw [← e]
          exact ⟨(ok m hm).2.1, (ok m hm).1⟩
        have ql2 : qs2.length ≤ 4000 := by
          have := congrArg List.length eq2
          rw [List.length_map] at this
          unfold bw at this
          rw [List.length_map] at this
          omega
        refine ⟨n, la, E2, qs2, rfl, SqL.of hE, fun p hp => SqT.of (rows2 p hp), qok2, la0, nB, ql2, fun d2 f2 H4 S4 nd2 hd2 st2 c2 => ?_⟩
        have hd1' := S4 _ _ (S3 _ _ hd1)
        have S14 := (S12.trans S3).trans S4
        have all1 : ∀ x, x < n → x ∈ f1 := cf f1 st1 fun e he h1 => by
          rw [← eq] at he
          obtain ⟨p, hp, rfl⟩ := List.mem_map.mp he
          exact c1 p hp h1
        have all2 : ∀ x, x < n → x ∈ f2 := cb f2 st2 fun e he h1 => by
          rw [← eq2] at he
          obtain ⟨p, hp, rfl⟩ := List.mem_map.mp he
          exact c2 p hp h1
        refine ⟨_, rfl, (n : Int), rfl, by omega, by omega, ?_⟩
        rw [Int.toNat_natCast]
        refine for_range (lo := 0) (n := n) (fun i σ H' => ∃ v : Option V, σ = [some (.int (n : Int)), some (.int (st : Int)), some (.int (la : Int)), some (.ref l), some (.ref d1), none, some (.ref d2), v] ∧ H' = H4) ⟨none, rfl, rfl⟩ ?_ ?_
        · rintro i σ H' hi ⟨v, rfl, rfl⟩
          obtain ⟨v1, e1⟩ := val_okD (all1 i hi)
          obtain ⟨v2, e2⟩ := val_okD (all2 i hi)
          have iz : (0 : Int) + (i : Int) = (i : Int) := Int.zero_add _
          refine ⟨_, rfl, _, rfl, d1, _, rfl, by rw [iz]; exact DGet.k (k := Sum.inl (i : Int)) hd1', _, rfl, ?_⟩
          rw [e1]
          refine iteF ?_
          refine ⟨_, rfl, _, rfl, d2, _, rfl, by rw [iz]; exact DGet.k (k := Sum.inl (i : Int)) hd2, _, rfl, ?_⟩
          rw [e2]
          refine iteF ?_
          exact ⟨_, rfl, rfl⟩
        · rintro σ H' ⟨v, rfl, rfl⟩
          exact k _ S14
end
end Vk
set_option Elab.async false
set_option linter.all false
set_option maxRecDepth 100000
set_option maxHeartbeats 4000000
namespace Vk
open PySem PySem.Spec PyProof.Rows L2 Vt
/-- a machine's four parts are as they have to be -/
structure OkM (n st la : Nat) (ms : List (Addr × Mv)) : Prop where
  n1 : 1 ≤ n
  n2 : n ≤ 999
  hst : st < n
  hla : la < n
  ok : ∀ p ∈ ms, OkMv n p.2
  asc : Asc ms
  e0 : (ms.map fun p => eK 0 p.2).Nodup
  e2 : (ms.map fun p => eK 2 p.2).Nodup
  few : ms.length ≤ 3999
  fw : Conn n st (fw ms)
  bw : Conn n la (bw ms)
section
variable {P : Program} {w : World} {K : PySem.W.Frag} {mg : Str → Option Value} {base : Heap}
def spCheck (K : PySem.W.Frag) : Sp := fun vs H Q _ => ∃ (n st la : Nat) (l : Addr) (ms : List (Addr × Mv)), vs = [.int (n : Int), .int (st : Int), .int (la : Int), .ref l] ∧ MvsAt K H l ms ∧ OkM n st la ms ∧ ∀ H', Same H H' → Q .non H'
theorem scK : FnScope ["size", "first", "last", "moves"] ["size", "first", "last", "moves"] (defScope sCheck) := ⟨rfl, rfl, rfl, by decide +kernel, rfl, by decide +kernel, by decide +kernel⟩
theorem ok_check {f fN fS fC fX fP : Addr} {fd fdN fdS fdC fdX fdP : FuncData} (F : Fun K "check_machine" "check_machine" sCheck f fd) (T : Txt8 K mg) {tk : Tok} (hmost : mg "MOST_STATES" = some (.int 999 tk))
    (FN : Fun K "is_number" "is_number" sNum fN fdN) (gN : mg "is_number" = some (.ref fN)) (bN : Binds K fdN ["thing"] [])
    (FS : Fun K "is_state" "is_state" sState fS fdS) (gS : mg "is_state" = some (.ref fS)) (bS : Binds K fdS ["thing", "size"] [])
    (FC : Fun K "check_moves" "check_moves" sMoves fC fdC) (gC : mg "check_moves" = some (.ref fC)) (bC : Binds K fdC ["size", "moves"] []) (GC : FnOk P w K mg base CX0 4 fC fdC ["size", "moves"] (spMoves K))
    (FX : Fun K "check_ends" "check_ends" sEnds fX fdX) (gX : mg "check_ends" = some (.ref fX)) (bX : Binds K fdX ["moves", "end"] [])
    (FP : Fun K "check_paths" "check_paths" sPaths fP fdP) (gP : mg "check_paths" = some (.ref fP)) (bP : Binds K fdP ["size", "first", "last", "moves"] []) (GP0 : FnOk P w K mg base CX0 2 fP fdP ["size", "first", "last", "moves"] (spPaths K)) :
    FnOk P w K mg base CX0 5 f fd ["size", "first", "last", "moves"] (spCheck K) := by
  have GN : FnOk P w K mg base CX0 4 fN fdN ["thing"] spNum := (ok_num FN T).mono (by decide)
  have GS : FnOk P w K mg base CX0 4 fS fdS ["thing", "size"] spState := (ok_state FS T FN gN bN).mono (by decide)
  have GX : FnOk P w K mg base CX0 4 fX fdX ["moves", "end"] (spEnds K) := (ok_ends FX T).mono (by decide)
  have GP : FnOk P w K mg base CX0 4 fP fdP ["size", "first", "last", "moves"] (spPaths K) := GP0.mono (by decide)
  refine F.ok scK (fun vs H Q E h => ?_) (fun cdv A outer s H vs Q E hr h => ?_)
  · obtain ⟨n, st, la, l, ms, rfl, _⟩ := h
    rfl
  · obtain ⟨n, st, la, l, ms, rfl, hM, ok, k⟩ := h
    have n2 := ok.n2
    refine ⟨_, (pss_cons (ps_if (PW.pt (pw_or (pt_not (pt_val (pe_call GN hr rfl gN FN.kp bN .nil pass0 (pa_cons (pv 0) pa_nil)))) (pw_or1 (pt_not (pt_chain op_le op_le pe_int (pv 0) (pe_glob (v := .int 999) (by rfl) hmost ⟨_, rfl⟩)))))) (pss_one ps_never) pss_nil)
        (pss_cons (ps_if (pt_not (pt_val (pe_call GS hr rfl gS FS.kp bS .nil pass0 (pa_cons (pv 1) (pa_cons (pv 0) pa_nil))))) (pss_one ps_never) pss_nil)
        (pss_cons (ps_if (pt_not (pt_val (pe_call GS hr rfl gS FS.kp bS .nil pass0 (pa_cons (pv 2) (pa_cons (pv 0) pa_nil))))) (pss_one ps_never) pss_nil)
        (pss_cons (ps_expr (pe_call GC hr rfl gC FC.kp bC .nil pass0 (pa_cons (pv 0) (pa_cons (pv 3) pa_nil))))
        (pss_cons (ps_expr (pe_call GX hr rfl gX FX.kp bX .nil pass0 (pa_cons (pv 3) (pa_cons pe_int pa_nil))))
        (pss_cons (ps_expr (pe_call GX hr rfl gX FX.kp bX .nil pass0 (pa_cons (pv 3) (pa_cons pe_int pa_nil))))
        (pss_one (ps_expr (pe_call GP hr rfl gP FP.kp bP .nil pass0 (pa_cons (pv 0) (pa_cons (pv 1) (pa_cons (pv 2) (pa_cons (pv 3) pa_nil))))))))))))), ?_⟩
    refine ⟨_, rfl, _, rfl, _, rfl, ?_⟩
    refine iteF ?_
    refine ⟨_, rfl, _, _, rfl, rfl, _, rfl, ?_⟩
    rw [decide_eq_true (show (1 : Int) ≤ (n : Int) from Int.ofNat_le.mpr ok.n1)]
    refine iteT ?_
    refine ⟨_, _, rfl, rfl, _, rfl, ?_⟩
    refine iteNS (show (n : Int) ≤ 999 by omega) ?_
    refine ⟨_, rfl, _, rfl, _, _, rfl, Int.natCast_nonneg _, Int.ofNat_lt.mpr ok.hst, _, rfl, ?_⟩
    refine iteF ?_
    refine ⟨_, rfl, _, rfl, _, _, rfl, Int.natCast_nonneg _, Int.ofNat_lt.mpr ok.hla, _, rfl, ?_⟩
    refine iteF ?_
    refine ⟨_, rfl, _, rfl, n, l, ms, rfl, hM, ok.ok, ok.asc, by have := ok.few; omega, fun H1 S1 => ?_⟩
    have hM1 : MvsAt K H1 l ms := ⟨same_seqT S1 hM.tp, fun p hp => same_seqT S1 (hM.it p hp)⟩
    refine ⟨_, rfl, 0, l, ms, rfl, .inl rfl, hM1, ok.e0, ok.few, fun H2 S2 => ?_⟩
    have hM2 : MvsAt K H2 l ms := ⟨same_seqT S2 hM1.tp, fun p hp => same_seqT S2 (hM1.it p hp)⟩
    refine ⟨_, rfl, 2, l, ms, rfl, .inr rfl, hM2, ok.e2, ok.few, fun H3 S3 => ?_⟩
    have hM3 : MvsAt K H3 l ms := ⟨same_seqT S3 hM2.tp, fun p hp => same_seqT S3 (hM2.it p hp)⟩
    refine ⟨_, rfl, _, rfl, _, rfl, _, rfl, n, st, la, l, ms, rfl, hM3, ok.ok, ok.hst, ok.hla, by omega, by have := ok.few; omega, ok.fw, ok.bw, fun H4 S4 => ?_⟩
    exact k _ (((S1.trans S2).trans S3).trans S4)
end
end Vk
set_option Elab.async false
set_option linter.all false
set_option maxRecDepth 100000
set_option maxHeartbeats 4000000
namespace Vk
open PySem PySem.Spec PyProof.Rows L2 Vt
abbrev sInit : Stmt := inClass (top8 28) 0
def entK (m : Mv) : List Key := [.inl (m.s : Int), .inr (sg m.c)]
def lefK (m : Mv) : List Key := [.inl (m.t : Int), .inr (sg m.c)]
def ents (ms : List (Addr × Mv)) : List (List Key × V) := ms.map fun p => (entK p.2, .int (p.2.t : Int))
def lefs (ms : List (Addr × Mv)) : List (List Key × V) := ms.map fun p => (lefK p.2, .int (p.2.s : Int))
def mF (n st la : Nat) (l : Addr) (z : Str) (E F : Addr) : List (Str × V) := [("size", .int (n : Int)), ("first", .int (st : Int)), ("last", .int (la : Int)), ("moves", .ref l), ("letters", .str z), ("_entered", .ref E), ("_left", .ref F)]
theorem put1 (a : V) : putF "size" a ([] : List (Str × V)) = ([("size", a)] : List (Str × V)) := by rfl
theorem put2 (a b : V) : putF "first" b ([("size", a)] : List (Str × V)) = ([("size", a), ("first", b)] : List (Str × V)) := by rfl
theorem put3 (a b c : V) : putF "last" c ([("size", a), ("first", b)] : List (Str × V)) = ([("size", a), ("first", b), ("last", c)] : List (Str × V)) := by rfl
theorem put4 (a b c d : V) : putF "moves" d ([("size", a), ("first", b), ("last", c)] : List (Str × V)) = ([("size", a), ("first", b), ("last", c), ("moves", d)] : List (Str × V)) := by rfl
theorem put5 (a b c d e : V) : putF "letters" e ([("size", a), ("first", b), ("last", c), ("moves", d)] : List (Str × V)) = ([("size", a), ("first", b), ("last", c), ("moves", d), ("letters", e)] : List (Str × V)) := by rfl
theorem put6 (a b c d e f : V) : putF "_entered" f ([("size", a), ("first", b), ("last", c), ("moves", d), ("letters", e)] : List (Str × V)) = ([("size", a), ("first", b), ("last", c), ("moves", d), ("letters", e), ("_entered", f)] : List (Str × V)) := by rfl
theorem put7 (a b c d e f g : V) : putF "_left" g ([("size", a), ("first", b), ("last", c), ("moves", d), ("letters", e), ("_entered", f)] : List (Str × V)) = ([("size", a), ("first", b), ("last", c), ("moves", d), ("letters", e), ("_entered", f), ("_left", g)] : List (Str × V)) := by rfl
/-- a machine stands at a -/
structure MachAt (K : PySem.W.Frag) (C : Addr) (H : Hp) (a : Addr) (n st la : Nat) (ms : List (Addr × Mv)) : Prop where
  ok : OkM n st la ms
  ob : ∃ (dx l E F : Addr) (z : Str), H a = some (.ins C dx (mF n st la l z E F)) ∧ MvsAt K H l ms ∧ H E = some (.dT (ents ms)) ∧ H F = some (.dT (lefs ms))
structure MCls (K : PySem.W.Frag) (C : Addr) : Prop where
  cl : Cls K C
  a1 : NoAttr K C "size"
  a2 : NoAttr K C "first"
  a3 : NoAttr K C "last"
  a4 : NoAttr K C "moves"
  a5 : NoAttr K C "letters"
  a6 : NoAttr K C "_entered"
  a7 : NoAttr K C "_left"
theorem seqT_ins {K : PySem.W.Frag} {H : Hp} {a b C dx : Addr} {fs : List (Str × V)} {o : HO} {xs : List V} (h : SqT K H b xs) (ha : H a = some (.ins C dx fs)) : SqT K (upd H a o) b xs := by
  rcases h with (h | ⟨u, h⟩) | h
  · exact .inl (.inl (by rw [upd_ne (ne_of h ha (fun z => by cases z))]; exact h))
  · exact .inl (.inr ⟨u, by rw [upd_ne (ne_of h ha (fun z => by cases z))]; exact h⟩)
  · exact .inr h
theorem mvs_ins {K : PySem.W.Frag} {H : Hp} {a C dx l : Addr} {fs : List (Str × V)} {o : HO} {ms : List (Addr × Mv)} (h : MvsAt K H l ms) (ha : H a = some (.ins C dx fs)) : MvsAt K (upd H a o) l ms := ⟨seqT_ins h.tp ha, fun p hp => seqT_ins (h.it p hp) ha⟩
theorem ones : ∀ {ys : List Str}, (∀ y ∈ ys, y.length = 1) → (ys.map fun x => x.length).sum = ys.length
  | [], _ => rfl
  | y :: ys, h => by
    rw [List.map_cons, List.sum_cons, h y List.mem_cons_self, ones fun z hz => h z (.tail _ hz), List.length_cons]
    omega
theorem nin_take {α : Type} {l : List α} {i : Nat} {x : α} (nd : l.Nodup) (h : l[i]? = some x) : x ∉ l.take i := fun z => by
  have il := (List.getElem?_eq_some_iff.mp h).1
  rw [← List.take_append_drop i l] at nd
  refine (List.nodup_append.mp nd).2.2 x z x ?_ rfl
  rw [List.drop_eq_getElem_cons il]
  rw [List.getElem?_eq_getElem il] at h
  rw [Option.some.inj h]
  exact List.mem_cons_self
theorem val_no {kvs : List (List Key × V)} {k : List Key} (h : k ∉ kvs.map (·.1)) : valV kvs k = none := by
  unfold valV
  rw [List.find?_eq_none.mpr fun q hq z => h (List.mem_map.mpr ⟨q, hq, of_decide_eq_true z⟩)] <;> rfl
theorem nd_map {α β γ : Type} {f : α → β} {g : α → γ} (h : ∀ a b, g a = g b → f a = f b) {l : List α} (nd : (l.map f).Nodup) : (l.map g).Nodup := by
  unfold List.Nodup at nd ⊢
  rw [List.pairwise_map] at nd ⊢
  exact List.Pairwise.imp (fun ne e => ne (h _ _ e)) nd
section
variable {P : Program} {w : World} {K : PySem.W.Frag} {mg : Str → Option Value} {base : Heap}
def spInit (K : PySem.W.Frag) (C : Addr) : Sp := fun vs H Q _ => ∃ (n st la : Nat) (a dx l : Addr) (ms : List (Addr × Mv)), vs = [.ref a, .int (n : Int), .int (st : Int), .int (la : Int), .ref l] ∧ H a = some (.ins C dx []) ∧ MvsAt K H l ms ∧ OkM n st la ms ∧
  ∀ H', (∀ b o, H b = some o → b ≠ a → H' b = some o) → MachAt K C H' a n st la ms → Q .non H'
theorem scI : FnScope ["self", "size", "first", "last", "moves", "move", "source", "letter", "target"] ["self", "size", "first", "last", "moves"] (defScope sInit) := ⟨rfl, rfl, rfl, by decide +kernel, rfl, by decide +kernel, by decide +kernel⟩
theorem ok_init {f fK C : Addr} {fd fdK : FuncData} (F : Fun K "__init__" "Machine.__init__" sInit f fd) (T : Txt8 K mg) (M : MCls K C) (FK : Fun K "check_machine" "check_machine" sCheck fK fdK) (gK : mg "check_machine" = some (.ref fK)) (bK : Binds K fdK ["size", "first", "last", "moves"] [])
    (GK : FnOk P w K mg base CX0 5 fK fdK ["size", "first", "last", "moves"] (spCheck K)) : FnOk P w K mg base CX0 6 f fd ["self", "size", "first", "last", "moves"] (spInit K C) := by
  refine F.ok scI (fun vs H Q E h => ?_) (fun cdv A outer s H vs Q E hr h => ?_)
  · obtain ⟨n, st, la, a, dx, l, ms, rfl, _⟩ := h
    rfl
  · obtain ⟨n, st, la, a, dx, l, ms, rfl, ha, hM, ok, k⟩ := h
    refine ⟨_, (pss_cons (ps_expr (pe_call GK hr rfl gK FK.kp bK .nil pass0 (pa_cons (pv 1) (pa_cons (pv 2) (pa_cons (pv 3) (pa_cons (pv 4) pa_nil))))))
        (pss_cons (ps_fld (pv 0) (pv 1) rfl)
        (pss_cons (ps_fld (pv 0) (pv 2) rfl)
        (pss_cons (ps_fld (pv 0) (pv 3) rfl)
        (pss_cons (ps_fld (pv 0) (pv 4) rfl)
        (pss_cons (ps_fld (pv 0) (pe_join pe_str (pe_callB (cr_sortedTx (by rfl) hr.units) (by rfl) T.srt (by decide +kernel) (pa_cons (pe_callTy (cr_setLT (by rfl)) (by rfl) T.set (by decide +kernel) (pa_cons (pe_lc (own := [("move", 5)]) (g := gName 5) (by rfl) scI.nd (pi_tup (pv 4)) (blkOk_by (own := [("move", 5)]) (N := ["self", "size", "first", "last", "moves", "move", "source", "letter", "target"]) (sc := defScope sInit) (by decide +kernel)) (fun _ _ _ _ _ => (pg_name (i := 5) scI.nd rfl (.inl rfl))) (fun _ _ _ _ _ => pts_nil) (fun _ _ _ _ _ => (pe_ix (r := rIxT K) ix_tup (pv 5) pe_int (fun _ _ => rfl)))) pa_nil)) pa_nil))) rfl)
        (pss_cons (ps_fld (pv 0) (pe_dcT (g := gTup K 3 (gCons (gName 6) (gCons (gName 7) (gCons (gName 8) gNil)))) hr.units (own := [("source", 6), ("letter", 7), ("target", 8)]) (by rfl) scI.nd (pi_tup (pv 4)) (blkOk_by (own := [("source", 6), ("letter", 7), ("target", 8)]) (N := ["self", "size", "first", "last", "moves", "move", "source", "letter", "target"]) (sc := defScope sInit) (by decide +kernel)) (fun _ _ _ _ _ => (pg_tup (by rfl) (pgs_cons (pg_name (i := 6) scI.nd rfl (.inl rfl)) (pgs_cons (pg_name (i := 7) scI.nd rfl (.inl rfl)) (pgs_cons (pg_name (i := 8) scI.nd rfl (.inl rfl)) pgs_nil))))) (fun _ _ _ _ _ => pts_nil) (fun _ _ _ _ _ => (pe_tup (pa_cons (pv 6) (pa_cons (pv 7) pa_nil)))) (fun _ _ _ _ _ => (pv 8))) rfl)
        (pss_one (ps_fld (pv 0) (pe_dcT (g := gTup K 3 (gCons (gName 6) (gCons (gName 7) (gCons (gName 8) gNil)))) hr.units (own := [("source", 6), ("letter", 7), ("target", 8)]) (by rfl) scI.nd (pi_tup (pv 4)) (blkOk_by (own := [("source", 6), ("letter", 7), ("target", 8)]) (N := ["self", "size", "first", "last", "moves", "move", "source", "letter", "target"]) (sc := defScope sInit) (by decide +kernel)) (fun _ _ _ _ _ => (pg_tup (by rfl) (pgs_cons (pg_name (i := 6) scI.nd rfl (.inl rfl)) (pgs_cons (pg_name (i := 7) scI.nd rfl (.inl rfl)) (pgs_cons (pg_name (i := 8) scI.nd rfl (.inl rfl)) pgs_nil))))) (fun _ _ _ _ _ => pts_nil) (fun _ _ _ _ _ => (pe_tup (pa_cons (pv 8) (pa_cons (pv 7) pa_nil)))) (fun _ _ _ _ _ => (pv 6))) rfl))))))))), ?_⟩
    refine ⟨_, rfl, _, rfl, _, rfl, _, rfl, n, st, la, l, ms, rfl, hM, ok, fun H1 S1 => ?_⟩
    have ha1 := S1 _ _ ha
    have hM1 : MvsAt K H1 l ms := ⟨same_seqT S1 hM.tp, fun p hp => same_seqT S1 (hM.it p hp)⟩
    have few := ok.few
    refine ⟨_, rfl, _, rfl, a, C, dx, _, rfl, ha1, M.cl, M.a1, (by show 0 < 1000; decide), ?_⟩
    rw [put1]
    refine ⟨_, rfl, _, rfl, a, C, dx, _, rfl, upd_same, M.cl, M.a2, (by show 1 < 1000; decide), ?_⟩
    rw [upd_upd, put2]
    refine ⟨_, rfl, _, rfl, a, C, dx, _, rfl, upd_same, M.cl, M.a3, (by show 2 < 1000; decide), ?_⟩
    rw [upd_upd, put3]
    refine ⟨_, rfl, _, rfl, a, C, dx, _, rfl, upd_same, M.cl, M.a4, (by show 3 < 1000; decide), ?_⟩
    rw [upd_upd, put4]
    obtain ⟨G, eG⟩ : ∃ G, G = upd H1 a (.ins C dx [("size", .int (n : Int)), ("first", .int (st : Int)), ("last", .int (la : Int)), ("moves", .ref l)]) := ⟨_, rfl⟩
    have hMG : MvsAt K G l ms := by rw [eG]; exact mvs_ins hM1 ha1
    have haG : G a = some (.ins C dx [("size", .int (n : Int)), ("first", .int (st : Int)), ("last", .int (la : Int)), ("moves", .ref l)]) := by rw [eG]; exact upd_same
    have bG : ∀ b o, H b = some o → b ≠ a → G b = some o := fun b o z nb => by rw [eG, upd_ne nb]; exact S1 _ _ z
    rw [← eG]
    refine ⟨⟨_, rfl⟩, _, rfl, l, rfl, ⟨_, hMG.tp⟩, fun D nD => ?_⟩
    refine lc_tup (K := K) (a := l) (xs := ms.map fun p => V.ref p.1) (fun i H' => H' = upd G D (.lst ((ms.take i).map fun p => V.str (sg p.2.c)))) rfl (fun i H' _ e => by rw [e]; exact same_seqT (same_up nD) hMG.tp) ?_ ?_
    · rintro i y H' hi rfl
      rw [List.getElem?_map] at hi
      obtain ⟨p, hp, rfl⟩ := Option.map_eq_some_iff.mp hi
      have hit := same_seqT (same_up (o := .lst ((ms.take i).map fun p => V.str (sg p.2.c))) nD) (hMG.it p (List.mem_of_getElem? hp))
      have il : i < ms.length := (List.getElem?_eq_some_iff.mp hp).1
      refine ⟨rfl, _, rfl, p.1, _, _, _, rfl, rfl, hit, rfl, _, upd_same, by rw [List.length_map, List.length_take, sizeLine_eq]; omega, ?_⟩
      rw [upd_upd, List.take_add_one, hp, List.map_append] <;> rfl
    · rintro H2 rfl
      rw [List.length_map, List.take_length]
      have S2 : Same G (upd G D (.lst (ms.map fun p => V.str (sg p.2.c)))) := same_up nD
      have mm : (ms.map fun p => V.str (sg p.2.c)) = (ms.map fun p => sg p.2.c).map V.str := by rw [List.map_map] <;> rfl
      refine ⟨D, ms.map fun p => sg p.2.c, rfl, SqL.of (by rw [upd_same, mm]), by rw [List.length_map]; unfold scanBound; omega, fun S nS => ?_⟩
      have S3 := S2.trans (same_up (o := SetSO P w S (Vs.putL [] (ms.map fun p => sg p.2.c))) nS)
      refine ⟨S, _, rfl, upd_same, fun ys p pm nd srt np => ?_⟩
      have S4 := S3.trans (same_up (o := .lst (ys.map V.str)) np)
      have y1 : ∀ y ∈ ys, y.length = 1 := fun y hy => by
        rcases Vs.mem_putL.mp (pm.mem_iff.mp hy) with z | z
        · cases z
        · obtain ⟨m, _, rfl⟩ := List.mem_map.mp z
          rfl
      have yl : ys.length ≤ 3999 := by
        rw [pm.length_eq]
        refine Nat.le_trans Vs.len_putL ?_
        rw [List.length_map]
        show 0 + ms.length ≤ 3999
        omega
      refine ⟨_, p, ys, rfl, rfl, .inl (SqL.of upd_same), by rw [ones y1]; show ys.length + ys.length * 0 ≤ 16777216; omega, ?_⟩
      obtain ⟨z, ez⟩ : ∃ z, z = Txt.join "" ys := ⟨_, rfl⟩
      rw [← ez]
      obtain ⟨G4, e4⟩ : ∃ G4, G4 = upd (upd (upd G D (.lst (ms.map fun p => V.str (sg p.2.c)))) S (SetSO P w S (Vs.putL [] (ms.map fun p => sg p.2.c)))) p (.lst (ys.map V.str)) := ⟨_, rfl⟩
      have S4' : Same G G4 := by rw [e4]; exact S4
      have ha4 := S4' _ _ haG
      have hM4 : MvsAt K G4 l ms := ⟨same_seqT S4' hMG.tp, fun p hp => same_seqT S4' (hMG.it p hp)⟩
      have nd0 : (ms.map fun p => entK p.2).Nodup := nd_map (f := fun (p : Addr × Mv) => eK 0 p.2) (g := fun (p : Addr × Mv) => entK p.2) (fun a b e => by
        simp only [entK, List.cons.injEq, Sum.inl.injEq, Sum.inr.injEq, and_true] at e
        simp only [eK, if_true]
        rw [e.1, e.2]) ok.e0
      have nd2 : (ms.map fun p => lefK p.2).Nodup := nd_map (f := fun (p : Addr × Mv) => eK 2 p.2) (g := fun (p : Addr × Mv) => lefK p.2) (fun a b e => by
        simp only [lefK, List.cons.injEq, Sum.inl.injEq, Sum.inr.injEq, and_true] at e
        have h2 : ¬ ((2 : Int) = 0) := by decide
        simp only [eK, if_neg h2]
        rw [e.1, e.2]) ok.e2
      erw [← e4]
      refine ⟨_, rfl, a, C, dx, _, rfl, ha4, M.cl, M.a5, (by show 4 < 1000; decide), ?_⟩
      rw [put5]
      obtain ⟨G5, e5⟩ : ∃ G5, G5 = upd G4 a (.ins C dx [("size", .int (n : Int)), ("first", .int (st : Int)), ("last", .int (la : Int)), ("moves", .ref l), ("letters", .str z)]) := ⟨_, rfl⟩
      have hM5 : MvsAt K G5 l ms := by rw [e5]; exact mvs_ins hM4 ha4
      have ha5 : G5 a = some (.ins C dx [("size", .int (n : Int)), ("first", .int (st : Int)), ("last", .int (la : Int)), ("moves", .ref l), ("letters", .str z)]) := by rw [e5]; exact upd_same
      have b5 : ∀ b o, H b = some o → b ≠ a → G5 b = some o := fun b o y nb => by rw [e5, upd_ne nb]; exact S4' _ _ (bG b o y nb)
      rw [← e5]
      refine ⟨_, rfl, l, rfl, ⟨_, hM5.tp⟩, fun E2 nE => ?_⟩
      refine dcT_tup (K := K) (a := l) (xs := ms.map fun p => V.ref p.1) (fun i H' => Same G5 H' ∧ H' E2 = some (.dT ((ents ms).take i))) ⟨same_up nE, upd_same⟩ (fun i H' _ ⟨S', _⟩ => same_seqT S' hM5.tp) ?_ ?_
      · rintro i y H' hi ⟨S', hE⟩
        rw [List.getElem?_map] at hi
        obtain ⟨p, hp, rfl⟩ := Option.map_eq_some_iff.mp hi
        have il : i < ms.length := (List.getElem?_eq_some_iff.mp hp).1
        have hit := same_seqT S' (hM5.it p (List.mem_of_getElem? hp))
        have no : valV ((ents ms).take i) (entK p.2) = none := by
          refine val_no fun z => nin_take nd0 (show (ms.map fun p => entK p.2)[i]? = some (entK p.2) by rw [List.getElem?_map, hp] <;> rfl) ?_
          rw [← List.map_take]
          unfold ents at z
          rw [← List.map_take, List.map_map] at z
          exact z
        refine ⟨p.1, _, rfl, hit, rfl, _, _, rfl, _, _, rfl, _, _, rfl, rfl, rfl, ?_⟩
        refine ⟨_, rfl, _, rfl, (by show 2 ≤ sizeLine; decide), fun q nq => ⟨_, rfl, (ents ms).take i, entK p.2, q, rfl, upd_same, ?_, ?_, fun c o z => ?_, ?_⟩⟩
        · rw [upd_ne (ne_of_none hE nq)]
          exact hE
        · rw [List.length_take, sizeLine_eq]
          omega
        · rw [upd_ne (ne_of_none z nE)]
          exact same_up nq _ _ (S' _ _ z)
        · rw [upd_same, putK_new _ no, List.take_add_one]
          unfold ents
          rw [List.getElem?_map, hp] <;> rfl
      · rintro H6 ⟨S6, hE6⟩
        rw [List.length_map, show ms.length = (ents ms).length from (List.length_map _).symm, List.take_length] at hE6
        have ha6 := S6 _ _ ha5
        refine ⟨_, rfl, a, C, dx, _, rfl, ha6, M.cl, M.a6, (by show 5 < 1000; decide), ?_⟩
        rw [put6]
        obtain ⟨G7, e7⟩ : ∃ G7, G7 = upd H6 a (.ins C dx [("size", .int (n : Int)), ("first", .int (st : Int)), ("last", .int (la : Int)), ("moves", .ref l), ("letters", .str z), ("_entered", .ref E2)]) := ⟨_, rfl⟩
        have hM6 : MvsAt K H6 l ms := ⟨same_seqT S6 hM5.tp, fun p hp => same_seqT S6 (hM5.it p hp)⟩
        have hM7 : MvsAt K G7 l ms := by rw [e7]; exact mvs_ins hM6 ha6
        have ha7 : G7 a = some (.ins C dx [("size", .int (n : Int)), ("first", .int (st : Int)), ("last", .int (la : Int)), ("moves", .ref l), ("letters", .str z), ("_entered", .ref E2)]) := by rw [e7]; exact upd_same
        have hE7 : G7 E2 = some (.dT (ents ms)) := by rw [e7, upd_ne (ne_of hE6 ha6 (fun y => by cases y))]; exact hE6
        have b7 : ∀ b o, H b = some o → b ≠ a → G7 b = some o := fun b o y nb => by rw [e7, upd_ne nb]; exact S6 _ _ (b5 b o y nb)
        rw [← e7]
        refine ⟨_, rfl, l, rfl, ⟨_, hM7.tp⟩, fun F2 nF => ?_⟩
        refine dcT_tup (K := K) (a := l) (xs := ms.map fun p => V.ref p.1) (fun i H' => Same G7 H' ∧ H' F2 = some (.dT ((lefs ms).take i))) ⟨same_up nF, upd_same⟩ (fun i H' _ ⟨S', _⟩ => same_seqT S' hM7.tp) ?_ ?_
        · rintro i y H' hi ⟨S', hE⟩
          rw [List.getElem?_map] at hi
          obtain ⟨p, hp, rfl⟩ := Option.map_eq_some_iff.mp hi
          have il : i < ms.length := (List.getElem?_eq_some_iff.mp hp).1
          have hit := same_seqT S' (hM7.it p (List.mem_of_getElem? hp))
          have no : valV ((lefs ms).take i) (lefK p.2) = none := by
            refine val_no fun z => nin_take nd2 (show (ms.map fun p => lefK p.2)[i]? = some (lefK p.2) by rw [List.getElem?_map, hp] <;> rfl) ?_
            rw [← List.map_take]
            unfold lefs at z
            rw [← List.map_take, List.map_map] at z
            exact z
          refine ⟨p.1, _, rfl, hit, rfl, _, _, rfl, _, _, rfl, _, _, rfl, rfl, rfl, ?_⟩
          refine ⟨_, rfl, _, rfl, (by show 2 ≤ sizeLine; decide), fun q nq => ⟨_, rfl, (lefs ms).take i, lefK p.2, q, rfl, upd_same, ?_, ?_, fun c o z => ?_, ?_⟩⟩
          · rw [upd_ne (ne_of_none hE nq)]
            exact hE
          · rw [List.length_take, sizeLine_eq]
            omega
          · rw [upd_ne (ne_of_none z nF)]
            exact same_up nq _ _ (S' _ _ z)
          · rw [upd_same, putK_new _ no, List.take_add_one]
            unfold lefs
            rw [List.getElem?_map, hp] <;> rfl
        · rintro H8 ⟨S8, hF8⟩
          rw [List.length_map, show ms.length = (lefs ms).length from (List.length_map _).symm, List.take_length] at hF8
          have ha8 := S8 _ _ ha7
          have hE8 := S8 _ _ hE7
          have hM8 : MvsAt K H8 l ms := ⟨same_seqT S8 hM7.tp, fun p hp => same_seqT S8 (hM7.it p hp)⟩
          refine ⟨_, rfl, a, C, dx, _, rfl, ha8, M.cl, M.a7, (by show 6 < 1000; decide), ?_⟩
          rw [put7]
          refine k _ (fun b o y nb => by rw [upd_ne nb]; exact S8 _ _ (b7 b o y nb)) ⟨ok, dx, l, E2, F2, z, upd_same, mvs_ins hM8 ha8, ?_, ?_⟩
          · rw [upd_ne (ne_of hE8 ha8 (fun y => by cases y))]
            exact hE8
          · rw [upd_ne (ne_of hF8 ha8 (fun y => by cases y))]
            exact hF8
end
end Vk
set_option Elab.async false
set_option linter.all false
set_option maxRecDepth 100000
set_option maxHeartbeats 4000000
namespace Vk
open PySem PySem.Spec PyProof.Rows L2 Vt
abbrev sAfter : Stmt := inClass (top8 28) 5
abbrev sStateOf : Stmt := inClass (top8 28) 7
abbrev sCont : Stmt := inClass (top8 28) 8
abbrev sWord : Stmt := top8 27
/-- where the move by a letter leads, if there is one -/
def stepM (ms : List (Addr × Mv)) (s c : Nat) : Option Nat := (ms.find? fun p => decide (p.2.s = s ∧ p.2.c = c)).map fun p => p.2.t
def optV : Option Nat → V
  | none => .non
  | some t => .int (t : Int)
def walkM (ms : List (Addr × Mv)) : Nat → List Nat → Option Nat
  | s, [] => some s
  | s, c :: r => (stepM ms s c).bind fun t => walkM ms t r
theorem val_ents (s c : Nat) : ∀ ms : List (Addr × Mv), (valV (ents ms) [Sum.inl (s : Int), Sum.inr (sg c)]).getD .non = optV (stepM ms s c)
  | [] => rfl
  | p :: ms => by
    have e0 : ents (p :: ms) = (entK p.2, V.int (p.2.t : Int)) :: ents ms := rfl
    have ih := val_ents s c ms
    rw [e0]
    unfold valV at ih ⊢
    unfold stepM at ih ⊢
    rw [List.find?_cons, List.find?_cons]
    by_cases e : p.2.s = s ∧ p.2.c = c
    · obtain ⟨rfl, rfl⟩ := e
      rw [decide_eq_true (show entK p.2 = [Sum.inl (p.2.s : Int), Sum.inr (sg p.2.c)] from rfl), decide_eq_true (⟨rfl, rfl⟩ : p.2.s = p.2.s ∧ p.2.c = p.2.c)]
      rfl
    · rw [decide_eq_false e, decide_eq_false (show ¬ entK p.2 = [Sum.inl (s : Int), Sum.inr (sg c)] from fun z => e ?_)]
      · exact ih
      · simp only [entK, List.cons.injEq, Sum.inl.injEq, Sum.inr.injEq, and_true] at z
        refine ⟨Int.ofNat.inj z.1, ?_⟩
        have := congrArg (fun y : Str => y.cps.toList) z.2
        simpa [sg] using this
section
variable {P : Program} {w : World} {K : PySem.W.Frag} {mg : Str → Option Value} {base : Heap}
def spAfter (K : PySem.W.Frag) (C : Addr) : Sp := fun vs H Q _ => ∃ (a : Addr) (n st la s c : Nat) (ms : List (Addr × Mv)), vs = [.ref a, .int (s : Int), .str (sg c)] ∧ MachAt K C H a n st la ms ∧ ∀ H', Same H H' → Q (optV (stepM ms s c)) H'
theorem scA : FnScope ["self", "state", "letter"] ["self", "state", "letter"] (defScope sAfter) := ⟨rfl, rfl, rfl, by decide +kernel, rfl, by decide +kernel, by decide +kernel⟩
theorem lk6 (n st la : Nat) (l : Addr) (z : Str) (E F : Addr) : (mF n st la l z E F).lookup ("_entered" : Str) = some (.ref E) := by rfl
theorem lk2 (n st la : Nat) (l : Addr) (z : Str) (E F : Addr) : (mF n st la l z E F).lookup ("first" : Str) = some (.int (st : Int)) := by rfl
theorem lk3 (n st la : Nat) (l : Addr) (z : Str) (E F : Addr) : (mF n st la l z E F).lookup ("last" : Str) = some (.int (la : Int)) := by rfl
theorem lk1 (n st la : Nat) (l : Addr) (z : Str) (E F : Addr) : (mF n st la l z E F).lookup ("size" : Str) = some (.int (n : Int)) := by rfl
theorem lk4 (n st la : Nat) (l : Addr) (z : Str) (E F : Addr) : (mF n st la l z E F).lookup ("moves" : Str) = some (.ref l) := by rfl
theorem ok_after {f C : Addr} {fd : FuncData} (F : Fun K "after" "Machine.after" sAfter f fd) (M : MCls K C) : FnOk P w K mg base CX0 1 f fd ["self", "state", "letter"] (spAfter K C) := by
  refine F.ok scA (fun vs H Q E h => ?_) (fun cdv A outer s H vs Q E hr h => ?_)
  · obtain ⟨a, n, st, la, s, c, ms, rfl, _⟩ := h
    rfl
  · obtain ⟨a, n, st, la, s, c, ms, rfl, hA, k⟩ := h
    have hu := hu_of hr
    obtain ⟨dx, l, E1, F1, z, ha, hM, hE, hF⟩ := hA.ob
    refine ⟨_, (pss_one (ps_ret (pe_dget1 hu (pe_fld (pv 0) rfl) (pe_tup (pa_cons (pv 1) (pa_cons (pv 2) pa_nil))) ⟨rfl, rfl, rfl, rfl⟩))), ?_⟩
    refine ⟨_, rfl, a, C, dx, _, _, rfl, ha, M.cl, M.a6, lk6 .., E1, rfl, .inr ⟨_, .inl hE⟩, _, rfl, _, rfl, (by show 2 ≤ sizeLine; decide), fun q nq => ?_⟩
    have S1 := same_up (o := .tup [.int (s : Int), .str (sg c)]) nq
    refine ⟨_, DGet.t (k := [Sum.inl (s : Int), Sum.inr (sg c)]) (S1 _ _ hE) upd_same, ?_⟩
    rw [val_ents]
    exact k _ S1
end
end Vk
set_option Elab.async false
set_option linter.all false
set_option maxRecDepth 100000
set_option maxHeartbeats 4000000
namespace Vk
open PySem PySem.Spec PyProof.Rows L2 Vt
theorem for_text {x : Str} {g : TG} {tb : TS} {D : Ends} {σ : L2.St} {H : Hp} (Pv : Nat → L2.St → Hp → Prop) (h0 : Pv 0 σ H)
    (hs : ∀ i c σ H, x.cps[i]? = some c → Pv i σ H → g (.str ⟨#[c]⟩) σ H fun σ2 H2 => tb { D with nx := Pv (i + 1), ct := Pv (i + 1), bk := D.nx } σ2 H2) (hd : ∀ σ H, Pv x.cps.size σ H → D.nx σ H) :
    ∃ W : Nat → Nat → L2.St → Hp → Prop, (∃ m, W 0 m σ H) ∧ ∀ i m σ H, W i m σ H → ((Its x).stop i H ∧ D.nx σ H) ∨ ((Its x).go i H ∧ ∃ N : L2.St → Hp → Prop, (∀ σ' H', N σ' H' → ∃ m', m' < m ∧ W (i + 1) m' σ' H') ∧ ∀ y H', (Its x).yld i H y H' → g y σ H' fun σ2 H2 => tb { D with nx := N, ct := N, bk := D.nx } σ2 H2) := by
  refine ⟨fun i m σ H => m + i = x.cps.size ∧ Pv i σ H, ⟨x.cps.size, rfl, h0⟩, fun i m σ H ⟨em, p⟩ => ?_⟩
  rcases Nat.lt_or_ge i x.cps.size with c | c
  · refine .inr ⟨c, Pv (i + 1), fun σ' H' p' => ⟨m - 1, by omega, by omega, p'⟩, fun y H' ⟨e, z, hz, ey⟩ => ?_⟩
    subst e ey
    exact hs i z σ _ hz p
  · obtain rfl : i = x.cps.size := by omega
    exact .inl ⟨Nat.le_refl _, hd σ H p⟩
theorem lc_text {x : Str} {g : TG} {tt : TT} {te : TE} {vs : List Nat} {σ : L2.St} {H1 : Hp} {D : Addr} {Qd : Hp → Prop} (Pv : Nat → Hp → Prop) (h0 : Pv 0 (upd H1 D (.lst [])))
    (hs : ∀ i c H, x.cps[i]? = some c → Pv i H → g (.str ⟨#[c]⟩) (wipe σ vs) H fun σ2 H2 => wipe σ2 vs = wipe σ vs ∧ tt σ2 H2 fun b H3 => if b = true then te σ2 H3 fun y H4 => ∃ acc, H4 D = some (.lst acc) ∧ acc.length < sizeLine ∧ Pv (i + 1) (upd H4 D (.lst (acc ++ [y]))) else Pv (i + 1) H3)
    (hd : ∀ H, Pv x.cps.size H → Qd H) :
    ∃ W : Nat → Nat → Hp → Prop, (∃ m, W 0 m (upd H1 D (.lst []))) ∧ ∀ i m H, W i m H → ((Its x).stop i H ∧ Qd H) ∨ ((Its x).go i H ∧ ∃ Nx : Hp → Prop, (∀ H', Nx H' → ∃ m', m' < m ∧ W (i + 1) m' H') ∧ ∀ y H', (Its x).yld i H y H' → g y (wipe σ vs) H' fun σ2 H2 => wipe σ2 vs = wipe σ vs ∧ tt σ2 H2 fun b H3 =>
      if b = true then te σ2 H3 fun y H4 => ∃ acc, H4 D = some (.lst acc) ∧ acc.length < sizeLine ∧ Nx (upd H4 D (.lst (acc ++ [y]))) else Nx H3) := by
  refine ⟨fun i m H => m + i = x.cps.size ∧ Pv i H, ⟨x.cps.size, rfl, h0⟩, fun i m H ⟨em, p⟩ => ?_⟩
  rcases Nat.lt_or_ge i x.cps.size with c | c
  · refine .inr ⟨c, Pv (i + 1), fun H' p' => ⟨m - 1, by omega, by omega, p'⟩, fun y H' ⟨e, z, hz, ey⟩ => ?_⟩
    subst e ey
    exact hs i z _ hz p
  · obtain rfl : i = x.cps.size := by omega
    exact .inl ⟨Nat.le_refl _, hd H p⟩
theorem MachAt.same {K : PySem.W.Frag} {C a : Addr} {H H' : Hp} {n st la : Nat} {ms : List (Addr × Mv)} (h : MachAt K C H a n st la ms) (S : Same H H') : MachAt K C H' a n st la ms := by
  obtain ⟨dx, l, E, F, z, ha, hM, hE, hF⟩ := h.ob
  exact ⟨h.ok, dx, l, E, F, z, S _ _ ha, ⟨same_seqT S hM.tp, fun p hp => same_seqT S (hM.it p hp)⟩, S _ _ hE, S _ _ hF⟩
section
variable {P : Program} {w : World} {K : PySem.W.Frag} {mg : Str → Option Value} {base : Heap}
def spStateOf (K : PySem.W.Frag) (C : Addr) : Sp := fun vs H Q _ => ∃ (a : Addr) (n st la : Nat) (x : Str) (ms : List (Addr × Mv)), vs = [.ref a, .str x] ∧ MachAt K C H a n st la ms ∧ ∀ H', Same H H' → Q (optV (walkM ms st x.cps.toList)) H'
theorem scO : FnScope ["self", "word", "state", "letter"] ["self", "word"] (defScope sStateOf) := ⟨rfl, rfl, rfl, by decide +kernel, rfl, by decide +kernel, by decide +kernel⟩
theorem no_after (n st la : Nat) (l : Addr) (z : Str) (E F : Addr) : (mF n st la l z E F).lookup ("after" : Str) = none := by rfl
theorem ok_stateof {f fA C : Addr} {fd fdA : FuncData} (F : Fun K "state_of" "Machine.state_of" sStateOf f fd) (M : MCls K C) (mA : Meth K C "after" fA) (FA : Fun K "after" "Machine.after" sAfter fA fdA) (bA : Binds K fdA ["self", "state", "letter"] []) :
    FnOk P w K mg base CX0 2 f fd ["self", "word"] (spStateOf K C) := by
  have GA : FnOk P w K mg base CX0 1 fA fdA ["self", "state", "letter"] (spAfter K C) := ok_after FA M
  refine F.ok scO (fun vs H Q E h => ?_) (fun cdv A outer s H vs Q E hr h => ?_)
  · obtain ⟨a, n, st, la, x, ms, rfl, _⟩ := h
    rfl
  · obtain ⟨a, n, st, la, x, ms, rfl, hA, k⟩ := h
    obtain ⟨dx, l, E1, F1, z, ha, _⟩ := hA.ob
    refine ⟨_, (pss_cons (ps_set (i := 2) scO.nd rfl (.inl rfl) (pe_fld (pv 0) rfl))
        (pss_cons (ps_for PassesOwn.never rfl (pi_str (pv 1)) (pg_name (i := 3) scO.nd rfl (.inl rfl)) (pss_cons (ps_set (i := 2) scO.nd rfl (.inl rfl) (pe_meth (pv 0) M.cl mA GA hr bA .nil pass0 (pa_cons (pv 2) (pa_cons (pv 3) pa_nil))))
        (pss_one (ps_if (pt_cmpR op_isN (pv 2) pe_non (nomark _)) (pss_one (ps_ret pe_non)) pss_nil))))
        (pss_one (ps_ret (pv 2))))), ?_⟩
    refine ⟨_, rfl, a, C, dx, _, _, rfl, ha, M.cl, M.a2, lk2 .., ?_⟩
    refine ⟨_, rfl, x, rfl, ?_⟩
    refine for_text (x := x) (fun i σ H' => ∃ (s : Nat) (v : Option V), σ = [some (.ref a), some (.str x), some (.int (s : Int)), v] ∧ Same H H' ∧ walkM ms st x.cps.toList = walkM ms s (x.cps.toList.drop i)) ⟨st, none, rfl, Same.refl _, by rw [List.drop_zero]⟩ ?_ ?_
    · rintro i c σ H' hi ⟨s, v, rfl, S', e⟩
      have hA' := hA.same S'
      obtain ⟨dx', l', E', F', z', ha', _⟩ := hA'.ob
      have hd : x.cps.toList.drop i = c :: x.cps.toList.drop (i + 1) := by
        have il : i < x.cps.toList.length := by
          rw [← Array.getElem?_toList] at hi
          exact (List.getElem?_eq_some_iff.mp hi).1
        rw [List.drop_eq_getElem_cons il]
        rw [← Array.getElem?_toList, List.getElem?_eq_getElem il] at hi
        rw [Option.some.inj hi]
      rw [hd, walkM] at e
      refine ⟨_, rfl, a, dx', _, rfl, ha', no_after .., _, rfl, _, rfl, a, n, st, la, s, c, ms, rfl, hA', fun H2 S2 => ?_⟩
      cases ez : stepM ms s c with
      | none =>
        rw [ez] at e
        refine ⟨_, rfl, rfl, _, rfl, ?_⟩
        refine iteT ?_
        have := k H2 (S'.trans S2)
        rw [e] at this
        exact this
      | some t =>
        rw [ez] at e
        refine ⟨_, rfl, rfl, _, rfl, ?_⟩
        refine iteF ?_
        exact ⟨t, _, rfl, S'.trans S2, e⟩
    · rintro σ H' ⟨s, v, rfl, S', e⟩
      have hl : x.cps.toList.drop x.cps.size = [] := List.drop_of_length_le (by rw [Array.length_toList]; exact Nat.le_refl _)
      rw [hl, walkM] at e
      refine ⟨_, rfl, ?_⟩
      have := k H' S'
      rw [e] at this
      exact this
end
end Vk
set_option Elab.async false
set_option linter.all false
set_option maxRecDepth 100000
set_option maxHeartbeats 4000000
namespace Vk
open PySem PySem.Spec PyProof.Rows L2 Vt
def OkW (x : Str) : Prop := (∀ c ∈ x.cps.toList, 97 ≤ c ∧ c ≤ 122) ∧ x.cps.size ≤ 100000
section
variable {P : Program} {w : World} {K : PySem.W.Frag} {mg : Str → Option Value} {base : Heap}
def spWord : Sp := fun vs H Q _ => ∃ x : Str, vs = [.str x] ∧ OkW x ∧ ∀ H', Same H H' → Q (.bl true) H'
theorem scZ : FnScope ["thing", "sign"] ["thing"] (defScope sWord) := ⟨rfl, rfl, rfl, by decide +kernel, rfl, by decide +kernel, by decide +kernel⟩
theorem ok_word {f fE : Addr} {fd fdE : FuncData} (F : Fun K "is_word" "is_word" sWord f fd) (T : Txt8 K mg) (mall : mg "all" = none) (FE : Fun K "is_letter" "is_letter" sLet fE fdE) (gE : mg "is_letter" = some (.ref fE)) (bE : Binds K fdE ["thing"] []) :
    FnOk P w K mg base CX0 2 f fd ["thing"] spWord := by
  have GE : FnOk P w K mg base CX0 1 fE fdE ["thing"] spLet := ok_let FE T
  refine F.ok scZ (fun vs H Q E h => ?_) (fun cdv A outer s H vs Q E hr h => ?_)
  · obtain ⟨x, rfl, _⟩ := h
    rfl
  · obtain ⟨x, rfl, ⟨h1, h2⟩, k⟩ := h
    refine ⟨_, (pss_one (ps_ret (pe_and (pe_callB call_isi (by rfl) T.isi (by decide +kernel) (pa_cons (pv 0) (pa_cons (pe_bltn (v := .ty "str") (by rfl) T.str (by decide +kernel) rfl) pa_nil))) (pe_one (pe_callB (cr_all (by rfl)) (by rfl) mall (by decide +kernel) (pa_cons (pe_lc (own := [("sign", 1)]) (g := gName 1) (by rfl) scZ.nd (pi_str (pv 0)) (blkOk_by (own := [("sign", 1)]) (N := ["thing", "sign"]) (sc := defScope sWord) (by decide +kernel)) (fun _ _ _ _ _ => (pg_name (i := 1) scZ.nd rfl (.inl rfl))) (fun _ _ _ _ _ => pts_nil) (fun _ _ _ _ _ => (pe_call GE hr rfl gE FE.kp bE .nil pass0 (pa_cons (pv 1) pa_nil)))) pa_nil)))))), ?_⟩
    refine ⟨_, rfl, _, _, _, _, true, rfl, .ty "str", .base (.str _), rfl, _, rfl, ?_⟩
    refine iteT ?_
    refine ⟨_, rfl, x, rfl, fun D nD => ?_⟩
    refine lc_text (x := x) (fun i H' => H' = upd H D (.lst ((List.replicate i true).map V.bl))) rfl ?_ ?_
    · rintro i c H' hi rfl
      have hc := h1 c (by rw [← Array.getElem?_toList] at hi; exact List.mem_of_getElem? hi)
      have il : i < x.cps.size := (Array.getElem?_eq_some_iff.mp hi).1
      refine ⟨rfl, _, rfl, c, rfl, hc.1, hc.2, _, upd_same, by rw [List.length_map, List.length_replicate, sizeLine_eq]; omega, ?_⟩
      rw [upd_upd, List.replicate_succ', List.map_append] <;> rfl
    · rintro H' rfl
      refine ⟨D, List.replicate x.cps.size true, rfl, SqL.of upd_same, ?_⟩
      have e : (List.replicate x.cps.size true).all id = true := by simp
      rw [e]
      exact k _ (same_up nD)
def spCont (K : PySem.W.Frag) (C : Addr) : Sp := fun vs H Q _ => ∃ (a : Addr) (n st la : Nat) (x : Str) (ms : List (Addr × Mv)), vs = [.ref a, .str x] ∧ OkW x ∧ MachAt K C H a n st la ms ∧ ∀ H', Same H H' → Q (.bl (decide (walkM ms st x.cps.toList = some la))) H'
theorem scQ : FnScope ["self", "word"] ["self", "word"] (defScope sCont) := ⟨rfl, rfl, rfl, by decide +kernel, rfl, by decide +kernel, by decide +kernel⟩
theorem no_stateof (n st la : Nat) (l : Addr) (z : Str) (E F : Addr) : (mF n st la l z E F).lookup ("state_of" : Str) = none := by rfl
theorem ok_cont {f fZ fO C : Addr} {fd fdZ fdO : FuncData} (F : Fun K "__contains__" "Machine.__contains__" sCont f fd) (M : MCls K C) (FZ : Fun K "is_word" "is_word" sWord fZ fdZ) (gZ : mg "is_word" = some (.ref fZ)) (bZ : Binds K fdZ ["thing"] []) (GZ : FnOk P w K mg base CX0 2 fZ fdZ ["thing"] spWord)
    (mO : Meth K C "state_of" fO) (FO : Fun K "state_of" "Machine.state_of" sStateOf fO fdO) (bO : Binds K fdO ["self", "word"] []) (GO : FnOk P w K mg base CX0 2 fO fdO ["self", "word"] (spStateOf K C)) : FnOk P w K mg base CX0 3 f fd ["self", "word"] (spCont K C) := by
  refine F.ok scQ (fun vs H Q E h => ?_) (fun cdv A outer s H vs Q E hr h => ?_)
  · obtain ⟨a, n, st, la, x, ms, rfl, _⟩ := h
    rfl
  · obtain ⟨a, n, st, la, x, ms, rfl, ox, hA, k⟩ := h
    refine ⟨_, (pss_one (ps_ret (pe_and (pe_call GZ hr rfl gZ FZ.kp bZ .nil pass0 (pa_cons (pv 1) pa_nil)) (pe_one (pe_cmpR op_eq (pe_meth (pv 0) M.cl mO GO hr bO .nil pass0 (pa_cons (pv 1) pa_nil)) (pe_fld (pv 0) rfl) (nomark _)))))), ?_⟩
    refine ⟨_, rfl, x, rfl, ox, fun H1 S1 => ⟨_, rfl, ?_⟩⟩
    refine iteT ?_
    have hA1 := hA.same S1
    obtain ⟨dx, l, E1, F1, z, ha, _⟩ := hA1.ob
    refine ⟨_, rfl, a, dx, _, rfl, ha, no_stateof .., _, rfl, a, n, st, la, x, ms, rfl, hA1, fun H2 S2 => ?_⟩
    obtain ⟨dx2, l2, E2, F2, z2, ha2, _⟩ := (hA1.same S2).ob
    refine ⟨_, rfl, a, C, dx2, _, _, rfl, ha2, M.cl, M.a3, lk3 .., ?_⟩
    have fin := k H2 (S1.trans S2)
    cases ew : walkM ms st x.cps.toList with
    | none =>
      rw [ew] at fin
      exact ⟨rfl, fin⟩
    | some t =>
      rw [ew] at fin
      refine ⟨rfl, ?_⟩
      have e : decide (V.int (t : Int) = V.int (la : Int)) = decide (some t = some la) := by
        by_cases y : t = la
        · rw [y]
          simp
        · rw [decide_eq_false (show ¬ V.int (t : Int) = V.int (la : Int) from fun z => y (by injection z with z; omega)), decide_eq_false (fun z => y (Option.some.inj z))]
      show Q (.bl (decide (V.int (t : Int) = V.int (la : Int)))) H2
      rw [e]
      exact fin
end
end Vk
set_option Elab.async false
set_option linter.all false
set_option maxRecDepth 100000
set_option maxHeartbeats 4000000
namespace Vk
open PySem PySem.Spec PyProof.Rows L2 Vt
abbrev sEq : Stmt := inClass (top8 28) 2
theorem shaped_mvsT (ms : List (Addr × Mv)) (hc : ∀ p ∈ ms, p.2.c ≤ 122) : SeqAt.shaped (.tuple (ms.map fun p => mvD p.2)) = true := by
  obtain ⟨h1, h2⟩ := lay_mvs ms hc
  unfold SeqAt.shaped
  rw [Bool.and_eq_true, decide_eq_true_eq]
  refine ⟨by rw [PyData.canLay0]; exact h1, ?_⟩
  rw [PyData.depth]
  omega
section
variable {P : Program} {w : World} {K : PySem.W.Frag} {mg : Str → Option Value} {base : Heap}
/-- equal parts: equal machines -/
def spEqM (K : PySem.W.Frag) (C : Addr) : Sp := fun vs H Q _ => ∃ (a b : Addr) (n st la : Nat) (ms1 ms2 : List (Addr × Mv)), vs = [.ref a, .ref b] ∧ MachAt K C H a n st la ms1 ∧ MachAt K C H b n st la ms2 ∧ ms1.map (·.2) = ms2.map (·.2) ∧ Q (.bl true) H
theorem scEq : FnScope ["self", "other"] ["self", "other"] (defScope sEq) := ⟨rfl, rfl, rfl, by decide +kernel, rfl, by decide +kernel, by decide +kernel⟩
theorem ok_eq {f C : Addr} {fd : FuncData} (F : Fun K "__eq__" "Machine.__eq__" sEq f fd) (T : Txt8 K mg) (M : MCls K C) (IC : C8.InsC K C) (gM : mg "Machine" = some (.ref C)) : FnOk P w K mg base CX0 1 f fd ["self", "other"] (spEqM K C) := by
  refine F.ok scEq (fun vs H Q E h => ?_) (fun cdv A outer s H vs Q E hr h => ?_)
  · obtain ⟨a, b, n, st, la, ms1, ms2, rfl, _⟩ := h
    rfl
  · obtain ⟨a, b, n, st, la, ms1, ms2, rfl, hA, hB, em, k⟩ := h
    obtain ⟨d1, l1, E1, F1, z1, ha, hM1, _⟩ := hA.ob
    obtain ⟨d2, l2, E2, F2, z2, hb, hM2, _⟩ := hB.ob
    refine ⟨_, (pss_one (ps_ret (pe_and (pe_callB (C8.call_isC IC) (by rfl) T.isi (by decide +kernel) (pa_cons (pv 1) (pa_cons (pe_glob (v := .ref C) (by rfl) gM rfl) pa_nil))) (pe_and (pe_cmpR op_eq (pe_fld (pv 0) rfl) (pe_fld (pv 1) rfl) (nomark _)) (pe_and (pe_cmpR op_eq (pe_fld (pv 0) rfl) (pe_fld (pv 1) rfl) (nomark _)) (pe_and (pe_cmpR op_eq (pe_fld (pv 0) rfl) (pe_fld (pv 1) rfl) (nomark _)) (pe_one (pe_cmpR (op_eqD hr.units) (pe_fld (pv 0) rfl) (pe_fld (pv 1) rfl) (nomark _))))))))), ?_⟩
    refine ⟨_, rfl, b, d2, _, rfl, hb, _, rfl, ?_⟩
    refine iteT ?_
    refine ⟨_, rfl, a, C, d1, _, _, rfl, ha, M.cl, M.a1, lk1 .., _, rfl, b, C, d2, _, _, rfl, hb, M.cl, M.a1, lk1 .., rfl, _, rfl, ?_⟩
    rw [decide_eq_true rfl]
    refine iteT ?_
    refine ⟨_, rfl, a, C, d1, _, _, rfl, ha, M.cl, M.a2, lk2 .., _, rfl, b, C, d2, _, _, rfl, hb, M.cl, M.a2, lk2 .., rfl, _, rfl, ?_⟩
    rw [decide_eq_true rfl]
    refine iteT ?_
    refine ⟨_, rfl, a, C, d1, _, _, rfl, ha, M.cl, M.a3, lk3 .., _, rfl, b, C, d2, _, _, rfl, hb, M.cl, M.a3, lk3 .., rfl, _, rfl, ?_⟩
    rw [decide_eq_true rfl]
    refine iteT ?_
    refine ⟨_, rfl, a, C, d1, _, _, rfl, ha, M.cl, M.a4, lk4 .., _, rfl, b, C, d2, _, _, rfl, hb, M.cl, M.a4, lk4 .., ?_⟩
    have e2 : (ms2.map fun p => mvD p.2) = ms1.map fun p => mvD p.2 := by
      have := congrArg (List.map mvD) em
      rw [List.map_map, List.map_map] at this
      exact this.symm
    have hc : ∀ p ∈ ms1, p.2.c ≤ 122 := fun p hp => (hA.ok.ok p hp).2.2.2
    have dp2 := dp_mvs hM2.it
    rw [e2] at dp2
    refine ⟨.tuple (ms1.map fun (p : Addr × Mv) => mvD p.2), .tuple (ms1.map fun (p : Addr × Mv) => mvD p.2), Dp.tup (K := K) hM1.tp (dp_mvs hM1.it), Dp.tup (K := K) hM2.tp dp2, shaped_mvsT ms1 hc, shaped_mvsT ms1 hc, ?_⟩
    rw [PySem.SeqAt.eqv_refl _ (SeqAt.canLay_of_shaped (shaped_mvsT ms1 hc))]
    exact k
end
end Vk
set_option Elab.async false
set_option linter.all false
set_option maxRecDepth 100000
set_option maxHeartbeats 4000000
namespace Vk
open PySem PySem.Spec PyProof.Rows L2 Vt
/-! ## which rows of moves make a machine: a look that the kernel can take -/
def mvLt (a b : Mv) : Prop := a.s < b.s ∨ a.s = b.s ∧ (a.c < b.c ∨ a.c = b.c ∧ a.t < b.t)
theorem mvLt_trans {a b c : Mv} (h : mvLt a b) (k : mvLt b c) : mvLt a c := by
  unfold mvLt at *
  omega
theorem blt_int {i j : Int} (h : i < j) : itemOrd.blt (.inl i) (.inl j) = true := by
  show decide (i < j) = true
  exact decide_eq_true h
theorem blt_txt {c d : Nat} (h : c < d) : itemOrd.blt (.inr [c]) (.inr [d]) = true := by
  show decide (([c] : List Nat) < [d]) = true
  refine decide_eq_true ?_
  exact List.Lex.rel h
theorem leM_lt {a b : Mv} (h : mvLt a b) (p q : Addr) : leM (q, mvK b) (p, mvK a) = false := by
  have z : PySem.W.dataLt (encM (p, mvK a)) (encM (q, mvK b)) = true := by
    show lexLt itemOrd [.inl 1, .inl (a.s : Int), .inl 1, .inr [a.c], .inl 1, .inl (a.t : Int), .inl 0] [.inl 1, .inl (b.s : Int), .inl 1, .inr [b.c], .inl 1, .inl (b.t : Int), .inl 0] = true
    rw [lex_self (O := itemOrd)]
    rcases h with h | ⟨h1, h⟩
    · exact lex_true.mpr (.inl (blt_int (by omega)))
    rw [h1, lex_self (O := itemOrd), lex_self (O := itemOrd)]
    rcases h with h | ⟨h1, h⟩
    · exact lex_true.mpr (.inl (blt_txt h))
    rw [h1, lex_self (O := itemOrd), lex_self (O := itemOrd)]
    exact lex_true.mpr (.inl (blt_int (by omega)))
  show (!PySem.W.dataLt (encM (p, mvK a)) (encM (q, mvK b))) = false
  rw [z]
  rfl
def mvLtB (a b : Mv) : Bool := Nat.blt a.s b.s || (Nat.beq a.s b.s && (Nat.blt a.c b.c || (Nat.beq a.c b.c && Nat.blt a.t b.t)))
theorem mvLt_of {a b : Mv} (h : mvLtB a b = true) : mvLt a b := by
  unfold mvLtB at h
  rw [Bool.or_eq_true, Bool.and_eq_true, Bool.or_eq_true, Bool.and_eq_true] at h
  rcases h with h | ⟨h1, h | ⟨h2, h3⟩⟩
  · exact .inl (Nat.le_of_ble_eq_true h)
  · exact .inr ⟨Nat.eq_of_beq_eq_true h1, .inl (Nat.le_of_ble_eq_true h)⟩
  · exact .inr ⟨Nat.eq_of_beq_eq_true h1, .inr ⟨Nat.eq_of_beq_eq_true h2, Nat.le_of_ble_eq_true h3⟩⟩
def upB : Mv → List Mv → Bool
  | _, [] => true
  | m, b :: r => mvLtB m b && upB b r
def ascB : List Mv → Bool
  | [] => true
  | m :: r => upB m r
theorem up_all : ∀ {r : List Mv} {m : Mv}, upB m r = true → (∀ x ∈ r, mvLt m x) ∧ r.Pairwise mvLt
  | [], _, _ => ⟨(fun _ h => nomatch h), List.Pairwise.nil⟩
  | b :: r, m, h => by
    rw [upB, Bool.and_eq_true] at h
    obtain ⟨h1, h2⟩ := up_all h.2
    have mb := mvLt_of h.1
    refine ⟨fun x hx => ?_, .cons h1 h2⟩
    rcases List.mem_cons.mp hx with rfl | hx
    · exact mb
    · exact mvLt_trans mb (h1 x hx)
theorem asc_of : ∀ {l : List Mv}, ascB l = true → l.Pairwise mvLt
  | [], _ => List.Pairwise.nil
  | _ :: _, h => .cons (up_all h).1 (up_all h).2
def eachB : List Nat → Bool
  | [] => true
  | x :: r => r.all (fun y => !Nat.beq x y) && eachB r
theorem each_of : ∀ {l : List Nat}, eachB l = true → l.Nodup
  | [], _ => List.Pairwise.nil
  | x :: r, h => by
    rw [eachB, Bool.and_eq_true] at h
    refine List.nodup_cons.mpr ⟨fun hx => ?_, each_of h.2⟩
    have := List.all_eq_true.mp h.1 x hx
    rw [Nat.beq_refl] at this
    cases this
def passB (S : List Nat) : List (Nat × Nat) → List Nat
  | [] => S
  | e :: r => bif S.any (Nat.beq e.1) && !S.any (Nat.beq e.2) then passB (e.2 :: S) r else passB S r
theorem any_mem {S : List Nat} {x : Nat} (h : S.any (Nat.beq x) = true) : x ∈ S := by
  obtain ⟨y, hy, e⟩ := List.any_eq_true.mp h
  rw [Nat.eq_of_beq_eq_true e]
  exact hy
theorem pass_in {T : List Nat} : ∀ {es : List (Nat × Nat)} {S : List Nat}, (∀ e ∈ es, e.1 ∈ T → e.2 ∈ T) → (∀ x ∈ S, x ∈ T) → ∀ x ∈ passB S es, x ∈ T
  | [], _, _, h => h
  | e :: r, S, c, h => by
    rw [passB]
    cases z : S.any (Nat.beq e.1) && !S.any (Nat.beq e.2) with
    | false => exact pass_in (fun e he => c e (.tail _ he)) h
    | true =>
      refine pass_in (fun e he => c e (.tail _ he)) fun x hx => ?_
      rcases List.mem_cons.mp hx with rfl | hx
      · exact c e List.mem_cons_self (h _ (any_mem (Bool.and_eq_true_iff.mp z).1))
      · exact h x hx
def allPass (n : Nat) : Nat → List Nat → List (Nat × Nat) → List Nat
  | 0, S, _ => S
  | k + 1, S, es => bif Nat.ble n S.length then S else allPass n k (passB S es) es
theorem all_in {n : Nat} {T : List Nat} {es : List (Nat × Nat)} (c : ∀ e ∈ es, e.1 ∈ T → e.2 ∈ T) : ∀ {k : Nat} {S : List Nat}, (∀ x ∈ S, x ∈ T) → ∀ x ∈ allPass n k S es, x ∈ T
  | 0, _, h => h
  | k + 1, S, h => by
    rw [allPass]
    cases Nat.ble n S.length with
    | true => exact h
    | false => exact all_in c (pass_in c h)
def connB (n st : Nat) (es : List (Nat × Nat)) : Bool := (List.range n).all fun x => (allPass n n [st] es).any (Nat.beq x)
theorem conn_of {n st : Nat} {es : List (Nat × Nat)} (h : connB n st es = true) : Conn n st es := fun S hs c x hx => by
  refine all_in c (k := n) (n := n) (S := [st]) (fun y hy => ?_) x (any_mem (List.all_eq_true.mp h x (List.mem_range.mpr hx)))
  rw [List.mem_singleton.mp hy]
  exact hs
def okMB (n st la : Nat) (l : List Mv) : Bool :=
  (Nat.ble 1 n && Nat.ble n 999 && Nat.blt st n && Nat.blt la n) && (l.all fun m => Nat.blt m.s n && Nat.blt m.t n && Nat.ble 97 m.c && Nat.ble m.c 122) &&
  ascB l && eachB (l.map fun m => m.c * 1000 + m.s) && eachB (l.map fun m => m.c * 1000 + m.t) && Nat.ble l.length 3999 &&
  connB n st (l.map fun m => (m.s, m.t)) && connB n la (l.map fun m => (m.t, m.s))
theorem nod_eK (e : Int) (he : e = 0 ∨ e = 2) {ms : List (Addr × Mv)} {n : Nat} (h9 : n ≤ 999) (ok : ∀ p ∈ ms, OkMv n p.2) (h : (ms.map fun p => p.2.c * 1000 + (if e = 0 then p.2.s else p.2.t)).Nodup) : (ms.map fun p => eK e p.2).Nodup := by
  unfold List.Nodup at *
  rw [List.pairwise_map] at *
  refine List.Pairwise.imp (fun {x y} z q => z ?_) h
  unfold eK at q
  injection q with q1 q2
  injection q2 with q2 _
  injection q1 with q1
  injection q2 with q2
  have c : x.2.c = y.2.c := by
    unfold sg at q1
    injection q1 with q1
    have := congrArg (fun a : Array Nat => a.toList) q1
    exact (List.cons.inj this).1
  rw [c]
  by_cases z0 : e = 0
  · rw [if_pos z0, if_pos z0] at *
    omega
  · rw [if_neg z0, if_neg z0] at *
    omega
theorem okM_of {n st la : Nat} {l : List Mv} (h : okMB n st la l = true) {ms : List (Addr × Mv)} (e : ms.map (·.2) = l) : OkM n st la ms := by
  subst e
  unfold okMB at h
  simp only [Bool.and_eq_true] at h
  obtain ⟨⟨⟨⟨⟨⟨⟨⟨⟨⟨h1, h2⟩, h3⟩, h4⟩, h5⟩, h6⟩, h7⟩, h8⟩, h9⟩, h10⟩, h11⟩ := h
  have n9 : n ≤ 999 := Nat.le_of_ble_eq_true h2
  have ok : ∀ p ∈ ms, OkMv n p.2 := fun p hp => by
    have := List.all_eq_true.mp h5 p.2 (List.mem_map.mpr ⟨p, hp, rfl⟩)
    simp only [Bool.and_eq_true] at this
    obtain ⟨⟨⟨a, b⟩, c⟩, d⟩ := this
    exact ⟨Nat.le_of_ble_eq_true a, Nat.le_of_ble_eq_true b, Nat.le_of_ble_eq_true c, Nat.le_of_ble_eq_true d⟩
  refine ⟨Nat.le_of_ble_eq_true h1, n9, Nat.le_of_ble_eq_true h3, Nat.le_of_ble_eq_true h4, ok, ?_, nod_eK 0 (.inl rfl) n9 ok ?_, nod_eK 2 (.inr rfl) n9 ok ?_, ?_, ?_, ?_⟩
  · have := asc_of h6
    rw [List.pairwise_map] at this
    unfold Asc
    rw [List.pairwise_map]
    exact this.imp fun {x y} z => leM_lt z x.1 y.1
  · have := each_of h7
    rw [List.map_map] at this
    exact this
  · have := each_of h8
    rw [List.map_map] at this
    exact this
  · have := Nat.le_of_ble_eq_true h9
    rw [List.length_map] at this
    exact this
  · have := conn_of h10
    rw [List.map_map] at this
    exact this
  · have := conn_of h11
    rw [List.map_map] at this
    exact this
end Vk
set_option Elab.async false
set_option linter.all false
set_option maxRecDepth 100000
set_option maxHeartbeats 4000000
namespace Vk
open PySem PySem.Spec PyProof.Rows L2

abbrev sDeck : Stmt := top8 58
abbrev sDraw : Stmt := top8 59
abbrev sPick : Stmt := top8 60
/-- the deck's pairs -/
def deckK (g : Addr) (m l : Int) : List (Key × V) := [(.inr "great", .ref g), (.inr "mixed", .int m), (.inr "lap", .int l)]
/-- a deck stands at d, its great numbers at g; at most n times drawn -/
structure DeckAt (H : Hp) (d g : Addr) (n : Int) : Prop where
  dk : ∃ m l : Int, H d = some (.dK (deckK g m l)) ∧ 0 ≤ m ∧ m < 2147483648 ∧ 0 ≤ l ∧ l ≤ n
  gr : ∃ gs : List Int, H g = some (.lst (gs.map V.int)) ∧ gs.length ≤ 63
theorem DeckAt.ne {H : Hp} {d g : Addr} {n : Int} (D : DeckAt H d g n) : d ≠ g := by
  obtain ⟨m, l, h1, _⟩ := D.dk
  obtain ⟨gs, h2, _⟩ := D.gr
  exact ne_of h1 h2 (by intro z; cases z)
theorem merge_deck (g : Addr) (m l : Int) : mergeK [] (deckK g m l) = deckK g m l := by
  rfl
/-- all but the deck stays -/
def But (d g : Addr) (H H' : Hp) : Prop := ∀ b o, H b = some o → b ≠ d → b ≠ g → H' b = some o
def spDeck (K : PySem.W.Frag) : Sp := fun vs H Q _ => ∃ (a : Addr) (ns : List Int), vs = [.ref a] ∧ SqL K H a (ns.map V.int) ∧ ns.length ≤ 63 ∧
  ∀ (d g : Addr) (H' : Hp), Same H H' → H d = none → H g = none → DeckAt H' d g 0 → Q (.ref d) H'
section
variable {P : Program} {w : World} {K : PySem.W.Frag} {mg : Str → Option Value} {base : Heap}
theorem scD : FnScope ["_law_script", "_law_mixed", "_law_cell"] ["_law_script"] (defScope sDeck) := ⟨rfl, rfl, rfl, by decide +kernel, rfl, by decide +kernel, by decide +kernel⟩
theorem same_new {H : Hp} {p : Addr} {o : HO} (hp : H p = none) : Same H (upd H p o) := fun b u e => by
  rw [upd_ne (ne_of_none e hp)]
  exact e
theorem ok_deck {f : Addr} {fd : FuncData} (F : Fun K "_law_deck" "_law_deck" sDeck f fd) (mi : mg "int" = none) : FnOk P w K mg base CX0 1 f fd ["_law_script"] (spDeck K) := by
  refine F.ok scD (fun vs H Q E h => ?_) (fun cdv A outer s H vs Q E hr h => ?_)
  · obtain ⟨a, ns, rfl, _⟩ := h
    rfl
  · obtain ⟨a, ns, rfl, hS, hlen, k⟩ := h
    refine ⟨_, pss_cons (ps_set (i := 1) scD.nd rfl (.inl rfl) pe_int)
      (pss_cons (ps_for PassesOwn.never rfl (pi_list (pe_slice sl_list (pv 0) po_none (po_some pe_int))) (pg_name (i := 2) scD.nd rfl (.inl rfl))
        (pss_one (ps_set (i := 1) scD.nd rfl (.inl rfl) (pe_op op_mod (pe_callTy call_int1 (by rfl) mi (by decide +kernel) (pa_cons (pe_op op_add (pe_op op_add (pe_op op_mul (pv 1) pe_int)
          (pe_op op_mod (pe_callTy call_int1 (by rfl) mi (by decide +kernel) (pa_cons (pv 2) pa_nil)) pe_int)) pe_int) pa_nil)) pe_int))))
      (pss_one (ps_ret (pe_disp (pps_cons pe_str (pe_revL (pe_lc (own := [("_law_cell", 2)]) (g := gName 2) (by rfl) scD.nd (pi_list (pe_slice sl_list (pv 0) po_none (po_some pe_int)))
          (blkOk_by (own := [("_law_cell", 2)]) (N := ["_law_script", "_law_mixed", "_law_cell"]) (sc := defScope sDeck) (by decide +kernel))
          (fun _ _ _ _ _ => pg_name (i := 2) scD.nd rfl (Or.inl rfl)) (fun _ _ _ _ _ => pts_one (pt_cmpR op_ge (pv 2) (pe_op op_pow pe_int pe_int) (nomark _))) (fun _ _ _ _ _ => pv 2)))
        (pps_cons pe_str (pv 1) (pps_cons pe_str pe_int pps_nil))) (by rfl) (by rfl) (fun z => by cases z) (by decide))))), ?_⟩
    obtain ⟨L, eL⟩ : ∃ L, L = cutV (ns.map V.int) none (some 63) := ⟨_, rfl⟩
    have ec : L = (ns.take 63).map V.int := by
      rw [eL]
      unfold cutV
      rw [HT.sIx_none, List.drop_zero, Nat.sub_zero, List.length_map, show ((63 : Int)) = ((63 : Nat) : Int) from rfl, HT.sIx_nat, ← List.map_take]
      congr 1
      rw [List.take_eq_take_iff]
      omega
    have hL63 : L.length ≤ 63 := by
      rw [ec, List.length_map, List.length_take]
      omega
    refine ⟨_, rfl, 63, rfl, a, _, rfl, hS, fun p hp => ⟨p, rfl, ⟨_, SqL.of upd_same⟩, ?_⟩⟩
    rw [← eL]
    have s1 : Same H (upd H p (.lst L)) := same_new hp
    refine for_list (K := K) (a := p) (xs := L) (fun i σ H' => ∃ (m : Int) (v : Option V), σ = [some (.ref a), some (.int m), v] ∧ 0 ≤ m ∧ m < 2147483648 ∧ H' = upd H p (.lst L))
      ⟨_, none, rfl, by decide, by decide, rfl⟩ (fun i σ H' _ ⟨_, _, _, _, _, e⟩ => by rw [e]; exact SqL.of upd_same) ?_ ?_
    · rintro i y σ H' hi ⟨m, v, rfl, h0, h1, rfl⟩
      rw [ec, List.getElem?_map] at hi
      obtain ⟨z, _, rfl⟩ := Option.map_eq_some_iff.mp hi
      refine ⟨_, rfl, _, _, rfl, rfl, .inr ⟨by decide, by decide⟩, _, rfl, .inl ⟨_, rfl, _, _, rfl, rfl, (by show (0 : Int) < 2147483629; decide), _, _, rfl, rfl, _, _, rfl, rfl, .inl ⟨_, rfl, _, _, rfl, rfl, (by show (0 : Int) < 2147483587; decide), ?_⟩⟩⟩
      refine ⟨_, _, rfl, Int.emod_nonneg _ (by decide), ?_, rfl⟩
      refine Int.lt_trans (Int.emod_lt_of_pos _ (by decide)) (by decide)
    · rintro σ H' ⟨m, v, rfl, h0, h1, rfl⟩
      intro d hd
      have hd0 : H d = none := s1.free hd
      have s2 : Same H (upd (upd H p (.lst L)) d (.dK [])) := s1.trans (same_new hd)
      refine ⟨_, rfl, 63, rfl, a, _, rfl, s2.seq hS, fun q hq => ⟨q, rfl, ⟨_, SqL.of upd_same⟩, fun D hD => ?_⟩⟩
      rw [← eL] at hD ⊢
      have ndq : d ≠ q := ne_of_none upd_same hq
      have s3 := s2.trans (same_new (o := .lst L) hq)
      have ndD : d ≠ D := ne_of_none (by rw [upd_ne ndq]; exact upd_same) hD
      have nqD : q ≠ D := ne_of_none upd_same hD
      obtain ⟨H4, e4⟩ : ∃ H4, H4 = upd (upd (upd H p (.lst L)) d (.dK [])) q (.lst L) := ⟨_, rfl⟩
      rw [← e4] at hD s3 ⊢
      have hq4 : H4 q = some (.lst L) := by rw [e4]; exact upd_same
      have hd4 : H4 d = some (.dK []) := by rw [e4, upd_ne ndq]; exact upd_same
      refine lc_list (K := K) (a := q) (xs := L) (fun i H' => ∃ gs : List Int, gs.length ≤ i ∧ H' = upd H4 D (.lst (gs.map V.int))) ⟨[], Nat.le_refl _, rfl⟩
        (fun i H' _ ⟨_, _, e⟩ => by rw [e]; exact SqL.of (by rw [upd_ne nqD]; exact hq4)) ?_ ?_
      · rintro i y H' hi ⟨gs, hg, rfl⟩
        have hil : i < L.length := (List.getElem?_eq_some_iff.mp hi).1
        rw [ec, List.getElem?_map] at hi
        obtain ⟨z, _, rfl⟩ := Option.map_eq_some_iff.mp hi
        refine ⟨rfl, _, rfl, _, _, rfl, rfl, ⟨by decide, by decide, by decide⟩, _, _, rfl, rfl, _, rfl, ?_⟩
        refine ite2 (fun _ => ?_) (fun _ => ?_)
        · refine ⟨_, rfl, _, upd_same, ?_, gs ++ [z], ?_, ?_⟩
          · rw [List.length_map]
            exact Nat.lt_of_le_of_lt (show gs.length ≤ 63 by omega) (by decide)
          · rw [List.length_append]
            show gs.length + 1 ≤ i + 1
            omega
          · rw [upd_upd, List.map_append]
            rfl
        · exact ⟨gs, Nat.le_succ_of_le hg, rfl⟩
      · rintro H' ⟨gs, hg, rfl⟩
        refine ⟨D, _, rfl, SqL.of upd_same, fun g hgn => ?_⟩
        have ngD : D ≠ g := ne_of_none upd_same hgn
        have ndg : d ≠ g := ne_of_none (by rw [upd_ne ndD]; exact hd4) hgn
        have s5 := (s3.trans (same_new (o := .lst (gs.map V.int)) hD)).trans (same_new (o := .lst (gs.map V.int).reverse) hgn)
        refine ⟨_, rfl, ?_, deckK g m 0, rfl, by show 3 ≤ 15; decide, ?_⟩
        · rw [upd_ne ndg, upd_ne ndD]
          exact hd4
        · rw [merge_deck]
          refine k d g _ ?_ hd0 ?_ ⟨⟨m, 0, upd_same, h0, h1, Int.le_refl _, Int.le_refl _⟩, gs.reverse, ?_, ?_⟩
          · intro b o e
            rw [upd_ne (ne_of_none e hd0)]
            exact s5 b o e
          · exact (s3.trans (same_new (o := .lst (gs.map V.int)) hD)).free hgn
          · rw [upd_ne ndg.symm, upd_same, List.map_reverse]
          · rw [List.length_reverse]
            omega
/-- the draw: some number below, the deck once more drawn, nothing else touched -/
def spDraw : Sp := fun vs H Q _ => ∃ (d g : Addr) (below n : Int), vs = [.ref d, .int below] ∧ DeckAt H d g n ∧ 0 < below ∧ below < 1000000 ∧ n < 1000000000 ∧
  ∀ (r : Int) (H' : Hp), 0 ≤ r → r < below → DeckAt H' d g (n + 1) → But d g H H' → Q (.int r) H'
theorem scW : FnScope ["_law_deck_here", "_law_below", "_law_cell", "_law_lap", "_law_mixed"] ["_law_deck_here", "_law_below"] (defScope sDraw) := ⟨rfl, rfl, rfl, by decide +kernel, rfl, by decide +kernel, by decide +kernel⟩
theorem val_great (g : Addr) (m l : Int) : valV (deckK g m l) (Sum.inr "great" : Key) = some (.ref g) := by rfl
theorem val_mixed (g : Addr) (m l : Int) : valV (deckK g m l) (Sum.inr "mixed" : Key) = some (.int m) := by rfl
theorem val_lap (g : Addr) (m l : Int) : valV (deckK g m l) (Sum.inr "lap" : Key) = some (.int l) := by rfl
theorem put_lap (g : Addr) (m l z : Int) : putK (deckK g m l) (Sum.inr "lap" : Key) (.int z) = deckK g m z := by rfl
theorem dp_ints {K : PySem.W.Frag} {H : Hp} : ∀ gs : List Int, DpAll K H (gs.map V.int) (gs.map PyData.int)
  | [] => .nil
  | i :: r => .cons (.int i) (dp_ints r)
theorem lay_ints : ∀ gs : List Int, PyData.canLayAll0 (gs.map PyData.int) = true ∧ PyData.depthAll (gs.map PyData.int) = 0
  | [] => ⟨rfl, rfl⟩
  | i :: r => by
    obtain ⟨h1, h2⟩ := lay_ints r
    refine ⟨?_, ?_⟩
    · show (PyData.canLay0 (.int i) && PyData.canLayAll0 (r.map PyData.int)) = true
      rw [h1] <;> rfl
    · show max (PyData.depth (.int i)) (PyData.depthAll (r.map PyData.int)) = 0
      rw [h2] <;> rfl
theorem shaped_ints (gs : List Int) : SeqAt.shaped (.list (gs.map PyData.int)) = true := by
  obtain ⟨h1, h2⟩ := lay_ints gs
  have e1 : PyData.canLay0 (.list (gs.map PyData.int)) = true := h1
  have e2 : PyData.depth (.list (gs.map PyData.int)) = 1 := by
    show PyData.depthAll (gs.map PyData.int) + 1 = 1
    rw [h2]
  unfold SeqAt.shaped
  rw [e1, e2]
  rfl
theorem eqv_nil (gs : List Int) : PyData.eqv (.list (gs.map PyData.int)) (.list []) = decide (gs = []) := by
  cases gs with
  | nil => rfl
  | cons i r => rfl
theorem ok_draw {f : Addr} {fd : FuncData} (F : Fun K "_law_draw" "_law_draw" sDraw f fd) (mi : mg "int" = none) : FnOk P w K mg base CX0 1 f fd ["_law_deck_here", "_law_below"] spDraw := by
  refine F.ok scW (fun vs H Q E h => ?_) (fun cdv A outer s H vs Q E hr h => ?_)
  · obtain ⟨d, g, b, n, rfl, _⟩ := h
    rfl
  · obtain ⟨d, g, b, n, rfl, D, hb0, hb1, hn, k⟩ := h
    have hu := hu_of hr
    refine ⟨_, pss_cons (ps_if (pt_cmpR (op_neD hr.units) (pe_dget hu (pv 0) pe_str (fun _ _ => rfl)) (pe_lst pa_nil) (nomark _))
        (pss_cons (ps_set (i := 2) scW.nd rfl (.inl rfl) (pe_callTy call_int1 (by rfl) mi (by decide +kernel) (pa_cons
            (pe_bm0 PySem.F.plainAttrs_list PySem.F.slot_list_pop PySem.F.type_list_pop mt_pop (pe_dget hu (pv 0) pe_str (fun _ _ => rfl))) pa_nil)))
        (pss_cons (ps_if (pt_cmpR op_ge (pv 2) (pv 1) (nomark _))
            (pss_one (ps_expr (pe_bm PySem.F.plainAttrs_list PySem.F.slot_list_append PySem.F.type_list_append mt_append (pe_dget hu (pv 0) pe_str (fun _ _ => rfl)) (pa_cons (pe_op op_fdiv (pv 2) (pv 1)) pa_nil)))) pss_nil)
        (pss_one (ps_ret (pe_op op_mod (pv 2) (pv 1)))))) pss_nil)
      (pss_cons (ps_set (i := 3) scW.nd rfl (.inl rfl) (pe_op op_add (pe_dget hu (pv 0) pe_str (fun _ _ => rfl)) pe_int))
      (pss_cons (ps_dput hu (pv 0) pe_str (pv 3) rfl)
      (pss_cons (ps_set (i := 4) scW.nd rfl (.inl rfl) (pe_op op_mod (pe_callTy call_int1 (by rfl) mi (by decide +kernel) (pa_cons (pe_op op_mul (pe_callTy call_int1 (by rfl) mi (by decide +kernel) (pa_cons
            (pe_op op_add (pe_op op_add (pe_dget hu (pv 0) pe_str (fun _ _ => rfl)) (pe_op op_mul (pe_op op_mul pe_int (pv 3)) (pv 3))) pe_int) pa_nil)) pe_int) pa_nil)) pe_int))
      (pss_cons (ps_set (i := 4) scW.nd rfl (.inl rfl) (pe_op op_mod (pe_callTy call_int1 (by rfl) mi (by decide +kernel) (pa_cons (pe_op op_add (pe_op op_mul (pv 4) (pv 4)) (pe_op op_mul pe_int (pv 3))) pa_nil)) pe_int))
      (pss_one (ps_ret (pe_op op_mod (pe_op op_fdiv (pe_op op_mod (pe_callTy call_int1 (by rfl) mi (by decide +kernel) (pa_cons (pe_op op_mul (pv 4) pe_int) pa_nil)) pe_int) pe_int) (pv 1)))))))), ?_⟩
    obtain ⟨⟨m, l, hd, hm0, hm1, hl0, hl1⟩, ⟨gs, hg, hg63⟩⟩ := id D
    have ndg : d ≠ g := D.ne
    refine ⟨_, rfl, _, _, rfl, DGet.k (k := Sum.inr "great") hd, ?_⟩
    refine ⟨Nat.zero_le _, fun p hp => ?_⟩
    have npd : d ≠ p := ne_of_none hd hp
    have npg : g ≠ p := ne_of_none hg hp
    have hd1 : upd H p (.lst []) d = some (.dK (deckK g m l)) := by rw [upd_ne npd]; exact hd
    have hg1 : upd H p (.lst []) g = some (.lst (gs.map V.int)) := by rw [upd_ne npg]; exact hg
    have b1 : But d g H (upd H p (.lst [])) := fun b o e _ _ => by rw [upd_ne (ne_of_none e hp)]; exact e
    refine ⟨.list (gs.map PyData.int), .list [], .lst (SqL.of hg1) (dp_ints gs), .lst (SqL.of upd_same) .nil, shaped_ints gs, by decide, _, rfl, ?_⟩
    rw [eqv_nil]
    by_cases hgs : gs = []
    · -- by the lap
      rw [decide_eq_true hgs]
      refine iteF ?_
      refine ⟨_, rfl, _, _, rfl, DGet.k (k := Sum.inr "lap") hd1, _, _, rfl, rfl, ?_⟩
      refine ⟨_, rfl, _, rfl, d, _, rfl, DPut.k (k := Sum.inr "lap") hd1 (by show 3 < sizeLine; decide), ?_⟩
      rw [put_lap]
      have hd2 : upd (upd H p (.lst [])) d (.dK (deckK g m (l + 1))) d = some (.dK (deckK g m (l + 1))) := upd_same
      refine ⟨_, rfl, _, _, rfl, DGet.k (k := Sum.inr "mixed") hd2, _, rfl, _, _, rfl, rfl, .inl ⟨by decide, by decide⟩, _, rfl, _, _, rfl, rfl, .inr ⟨by omega, by omega⟩, _, _, rfl, rfl, _, _, rfl, rfl,
        .inl ⟨_, rfl, _, _, rfl, rfl, .inr ⟨by decide, by decide⟩, .inl ⟨_, rfl, _, _, rfl, rfl, (by show (0 : Int) < 2147483647; decide), ?_⟩⟩⟩
      obtain ⟨M, eM⟩ : ∃ M, M = (m + 48271 * (l + 1) * (l + 1) + 53) * 39373 % 2147483647 := ⟨_, rfl⟩
      have M0 : 0 ≤ M := by rw [eM]; exact Int.emod_nonneg _ (by decide)
      have M1 : M < 2147483647 := by rw [eM]; exact Int.emod_lt_of_pos _ (by decide)
      dsimp only
      rw [← eM]
      refine ⟨_, rfl, _, rfl, _, _, rfl, rfl, .inl ⟨by omega, by omega⟩, _, rfl, _, _, rfl, rfl, .inl ⟨by decide, by decide⟩, _, _, rfl, rfl, .inl ⟨_, rfl, _, _, rfl, rfl, (by show (0 : Int) < 2147483579; decide), ?_⟩⟩
      refine ⟨_, rfl, _, _, rfl, rfl, .inr ⟨by decide, by decide⟩, .inl ⟨_, rfl, _, _, rfl, rfl, (by show (0 : Int) < 2147483563; decide), _, _, rfl, rfl, ⟨by decide, by decide⟩, _, rfl, _, _, rfl, rfl, hb0, ?_⟩⟩
      refine k _ _ (Int.emod_nonneg _ (by omega)) (Int.emod_lt_of_pos _ hb0) ⟨⟨m, l + 1, upd_same, hm0, hm1, by omega, by omega⟩, gs, ?_, hg63⟩ fun c o e h1 h2 => ?_
      · rw [upd_ne ndg.symm]
        exact hg1
      · rw [upd_ne h1]
        exact b1 c o e h1 h2
    · -- by a great number
      rw [decide_eq_false hgs]
      refine iteT ?_
      obtain ⟨hs, z, rfl⟩ : ∃ hs z, gs = hs ++ [z] := ⟨_, _, (List.dropLast_concat_getLast hgs).symm⟩
      have hlen : hs.length + 1 ≤ 63 := by simpa using hg63
      have eLast : ((hs ++ [z]).map V.int)[((hs ++ [z]).map V.int).length - 1]? = some (V.int z) := by simp
      have eDrop : ((hs ++ [z]).map V.int).dropLast = hs.map V.int := by simp
      refine ⟨_, rfl, _, _, rfl, DGet.k (k := Sum.inr "great") hd1, .inl ⟨rfl, _, SqL.of hg1⟩, g, _, _, rfl, rfl, hg1, eLast, .inl ⟨_, rfl, ?_⟩⟩
      rw [eDrop]
      refine ⟨_, rfl, _, rfl, _, _, rfl, rfl, _, rfl, ?_⟩
      have hd2 : upd (upd H p (.lst [])) g (.lst (hs.map V.int)) d = some (.dK (deckK g m l)) := by rw [upd_ne ndg]; exact hd1
      have b2 : But d g H (upd (upd H p (.lst [])) g (.lst (hs.map V.int))) := fun c o e h1 h2 => by rw [upd_ne h2]; exact b1 c o e h1 h2
      refine ite2 (fun _ => ?_) (fun _ => ?_)
      · refine ⟨_, rfl, _, _, rfl, DGet.k (k := Sum.inr "great") hd2, .inl ⟨rfl, _, SqL.of upd_same⟩, _, rfl, _, rfl, _, _, rfl, rfl, ⟨hb0, by omega⟩, g, _, _, rfl, rfl, upd_same, ?_, ?_⟩
        · rw [List.length_map]
          exact Nat.lt_of_le_of_lt (show hs.length ≤ 63 by omega) (by decide)
        refine ⟨_, rfl, _, rfl, _, _, rfl, rfl, hb0, ?_⟩
        refine k _ _ (Int.emod_nonneg _ (by omega)) (Int.emod_lt_of_pos _ hb0) ⟨⟨m, l, ?_, hm0, hm1, hl0, by omega⟩, hs ++ [z / b], ?_, by simpa using hlen⟩ fun c o e h1 h2 => ?_
        · rw [upd_ne ndg]
          exact hd2
        · rw [upd_same, List.map_append]
          rfl
        · rw [upd_ne h2]
          exact b2 c o e h1 h2
      · refine ⟨_, rfl, _, rfl, _, _, rfl, rfl, hb0, ?_⟩
        exact k _ _ (Int.emod_nonneg _ (by omega)) (Int.emod_lt_of_pos _ hb0) ⟨⟨m, l, hd2, hm0, hm1, hl0, by omega⟩, hs, upd_same, by omega⟩ b2
/-- a sign of a text -/
def spPickS : Sp := fun vs H Q _ => ∃ (d g : Addr) (n : Int) (z : Str), vs = [.ref d, .str z] ∧ DeckAt H d g n ∧ n < 1000000000 ∧ 0 < z.cps.size ∧ z.cps.size < 1000000 ∧
  ∀ (i c : Nat) (H' : Hp), z.cps[i]? = some c → DeckAt H' d g (n + 1) → But d g H H' → Q (.str (sg c)) H'
theorem scPk : FnScope ["_law_deck_here", "_law_menu"] ["_law_deck_here", "_law_menu"] (defScope sPick) := ⟨rfl, rfl, rfl, by decide +kernel, rfl, by decide +kernel, by decide +kernel⟩
theorem ok_pickS {f fD : Addr} {fd fdD : FuncData} (F : Fun K "_law_pick" "_law_pick" sPick f fd) (FD : Fun K "_law_draw" "_law_draw" sDraw fD fdD) (gD : mg "_law_draw" = some (.ref fD)) (bD : Binds K fdD ["_law_deck_here", "_law_below"] []) (GD0 : FnOk P w K mg base CX0 1 fD fdD ["_law_deck_here", "_law_below"] spDraw) (ml : mg "len" = none) :
    FnOk P w K mg base CX0 2 f fd ["_law_deck_here", "_law_menu"] spPickS := by
  have GD := GD0
  refine F.ok scPk (fun vs H Q E h => ?_) (fun cdv A outer s H vs Q E hr h => ?_)
  · obtain ⟨d, g, n, z, rfl, _⟩ := h
    rfl
  · obtain ⟨d, g, n, z, rfl, D, hn, h0, h1, k⟩ := h
    have zl : z.length = z.cps.size := rfl
    refine ⟨_, pss_one (ps_ret (pe_ix ix_str (pv 1) (pe_call GD hr rfl gD FD.kp bD .nil pass0 (pa_cons (pv 0) (pa_cons (pe_callB call_len_str (by rfl) ml PySem.boot_len (pa_cons (pv 1) pa_nil)) pa_nil))) (fun _ _ => rfl))), ?_⟩
    refine ⟨_, rfl, _, rfl, _, rfl, z, rfl, by rw [zl, sizeLine_eq]; omega, d, g, _, n, rfl, D, by rw [zl]; omega, by rw [zl]; omega, hn, fun r H' r0 r1 D' bt => ?_⟩
    obtain ⟨i, rfl⟩ : ∃ i : Nat, r = (i : Int) := ⟨r.toNat, by omega⟩
    have hi : i < z.cps.size := by rw [← zl]; omega
    have hv : z.cps[i]? = some z.cps[i] := by simp [hi]
    exact ⟨z, _, z.cps[i], rfl, rfl, by rw [zl, sizeLine_eq]; omega, atI_nat (by rw [Array.getElem?_toList]; exact hv), k i _ H' hv D' bt⟩
end
end Vk
set_option Elab.async false
set_option linter.all false
set_option maxRecDepth 100000
set_option maxHeartbeats 4000000
namespace Vk
open PySem PySem.Spec PyProof.Rows L2 Vt
/-! ## what is led to, on paper -/
/-- just what pairs lead to from b -/
structure Led (E : List (Nat × Nat)) (b : Nat) (l : List Nat) : Prop where
  nd : l.Nodup
  st : b ∈ l
  cl : ∀ e ∈ E, e.1 ∈ l → e.2 ∈ l
  mn : ∀ S : List Nat, b ∈ S → (∀ e ∈ E, e.1 ∈ S → e.2 ∈ S) → ∀ x ∈ l, x ∈ S
theorem nd_len : ∀ (n : Nat) (l : List Nat), l.Nodup → (∀ x ∈ l, x < n) → l.length ≤ n
  | 0, [], _, _ => Nat.le_refl _
  | 0, x :: l, _, h => absurd (h x List.mem_cons_self) (Nat.not_lt_zero _)
  | n + 1, l, nd, h => by
    have a := nd_len n (l.erase n) (nd.erase n) fun x hx => by
      have m := List.mem_of_mem_erase hx
      have ne : x ≠ n := fun z => (nd.mem_erase_iff.mp hx).1 z
      have := h x m
      omega
    by_cases hn : n ∈ l
    · rw [List.length_erase_of_mem hn] at a
      omega
    · rw [List.erase_of_not_mem hn] at a
      omega
def nI (l : List Nat) : List V := l.map fun (x : Nat) => V.int (x : Int)
theorem nI_len (l : List Nat) : (nI l).length = l.length := List.length_map _
theorem nI_app (l m : List Nat) : nI l ++ nI m = nI (l ++ m) := (List.map_append ..).symm
theorem flat_nI : ∀ l : List Nat, (nI l).all flatV = true
  | [] => rfl
  | x :: l => by
    show (flatV (.int (x : Int)) && (nI l).all flatV) = true
    rw [flat_nI l] <;> rfl
theorem eqV_int (x y : Nat) : eqV (.int (y : Int)) (.int (x : Int)) = decide (y = x) := by
  show ((y : Int) == (x : Int)) = decide (y = x)
  rw [Bool.eq_iff_iff, beq_iff_eq, decide_eq_true_eq]
  omega
theorem inV_nI (x : Nat) (l : List Nat) : inV (.int (x : Int)) (nI l) = decide (x ∈ l) := by
  induction l with
  | nil => rfl
  | cons y l ih =>
    have e : inV (.int (x : Int)) (nI (y :: l)) = (eqV (.int (y : Int)) (.int (x : Int)) || inV (.int (x : Int)) (nI l)) := rfl
    rw [e, ih, eqV_int, Bool.eq_iff_iff, Bool.or_eq_true, decide_eq_true_eq, decide_eq_true_eq, decide_eq_true_eq, List.mem_cons]
    exact ⟨fun h => h.imp Eq.symm id, fun h => h.imp Eq.symm id⟩
/-- a rising list of ints from 0 on, as naturals -/
theorem to_nats : ∀ {ns : List Int}, (∀ k ∈ ns, 0 ≤ k) → ns.map V.int = nI (ns.map Int.toNat)
  | [], _ => rfl
  | k :: ns, h => by
    have e := to_nats (ns := ns) fun j hj => h j (.tail _ hj)
    have hk := h k List.mem_cons_self
    have ek : ((k.toNat : Nat) : Int) = k := Int.toNat_of_nonneg hk
    rw [List.map_cons, e, List.map_cons]
    show V.int k :: _ = V.int ((k.toNat : Nat) : Int) :: _
    rw [ek] <;> rfl
end Vk
set_option Elab.async false
set_option linter.all false
set_option maxRecDepth 100000
set_option maxHeartbeats 4000000
namespace Vk
open PySem PySem.Spec PyProof.Rows L2 Vt
abbrev sLed : Stmt := top8 61
theorem same_updN {H H' : Hp} {a : Addr} {o : HO} (S : Same H H') (n : H a = none) : Same H (upd H' a o) := fun b u e => by
  rw [upd_ne (ne_of_none e n)]
  exact S _ _ e
section
variable {P : Program} {w : World} {K : PySem.W.Frag} {mg : Str → Option Value} {base : Heap}
def spLed (K : PySem.W.Frag) : Sp := fun vs H Q _ => ∃ (b n : Nat) (sp : Addr) (ps : List (Addr × Nat × Nat)), vs = [.int (b : Int), .ref sp] ∧ SqL K H sp (ps.map fun p => V.ref p.1) ∧ (∀ p ∈ ps, SqT K H p.1 [.int (p.2.1 : Int), .int (p.2.2 : Int)]) ∧
  (∀ p ∈ ps, p.2.1 < n ∧ p.2.2 < n) ∧ b < n ∧ n ≤ 1000 ∧ ps.length ≤ 60 ∧ ∀ (q : Addr) (l : List Nat) (H' : Hp), Same H H' → H q = none → H' q = some (.lst (nI l)) → Led (ps.map (·.2)) b l → (∀ x ∈ l, x < n) → Q (.ref q) H'
theorem scLd : FnScope ["_law_begin", "_law_pairs", "_law_found", "_law_at", "_law_here", "_law_there"] ["_law_begin", "_law_pairs"] (defScope sLed) := ⟨rfl, rfl, rfl, by decide +kernel, rfl, by decide +kernel, by decide +kernel⟩
theorem ok_led {f : Addr} {fd : FuncData} (F : Fun K "_law_led" "_law_led" sLed f fd) (T : Txt8 K mg) : FnOk P w K mg base CX0 1 f fd ["_law_begin", "_law_pairs"] (spLed K) := by
  refine F.ok scLd (fun vs H Q E h => ?_) (fun cdv A outer s H vs Q E hr h => ?_)
  · obtain ⟨b, n, sp, ps, rfl, _⟩ := h
    rfl
  · obtain ⟨b, n, sp, ps, rfl, hS, tup, lt, b0, nB, pB, k⟩ := h
    refine ⟨_, (pss_cons (ps_asg (pe_tup (pa_cons (pe_lst (pa_cons (pv 0) pa_nil)) (pa_cons pe_int pa_nil))) (pg_tup rfl (pgs_cons (pg_name (i := 2) scLd.nd rfl (.inr rfl)) (pgs_cons (pg_name (i := 3) scLd.nd rfl (.inr rfl)) pgs_nil))))
        (pss_cons (ps_while PassesOwn.never (pt_cmpR op_lt (pv 3) (pe_callB call_len (by rfl) T.len PySem.boot_len (pa_cons (pv 2) pa_nil)) (nomark _)) (pss_cons (ps_expr (pe_bm PySem.F.plainAttrs_list PySem.F.slot_list_extend PySem.F.type_list_extend mt_extend (pv 2) (pa_cons (pe_callB (cr_sortedSet (by rfl)) (by rfl) T.srt (by decide +kernel) (pa_cons (pe_callTy (cr_setI (by rfl) hr.units) (by rfl) T.set (by decide +kernel) (pa_cons (pe_lc (own := [("_law_here", 4), ("_law_there", 5)]) (g := (gTup K 2 (gCons (gName 4) (gCons (gName 5) gNil)))) (by rfl) scLd.nd (pi_list (pv 1)) (blkOk_by (own := [("_law_here", 4), ("_law_there", 5)]) (N := ["_law_begin", "_law_pairs", "_law_found", "_law_at", "_law_here", "_law_there"]) (sc := defScope sLed) (by decide +kernel)) (fun _ _ _ _ _ => (pg_tup (by rfl) (pgs_cons (pg_name (i := 4) scLd.nd rfl (.inl rfl)) (pgs_cons (pg_name (i := 5) scLd.nd rfl (.inl rfl)) pgs_nil)))) (fun _ _ _ _ _ => (pts_one (PW.pt (pw_and (pt_cmpR op_eq (pv 4) (pe_ix (r := rIxL K) ix_list (pv 2) (pv 3) (fun _ _ => rfl)) (nomark _)) (pw_and1 (pt_cmpR (r := rIn K true) op_notIn_seq (pv 5) (pv 2) (by rfl))))))) (fun _ _ _ _ _ => (pv 5))) pa_nil)) pa_nil)) pa_nil)))
        (pss_one (ps_set (i := 3) scLd.nd rfl (.inr rfl) (pe_op op_add (pv 3) pe_int)))))
        (pss_one (ps_ret (pv 2))))), ?_⟩
    refine ⟨_, rfl, by show 1 ≤ sizeLine; decide, fun F0 nF0 => ⟨by show 2 ≤ sizeLine; decide, fun tp ntp => ?_⟩⟩
    refine ⟨tp, _, rfl, SqT.of upd_same, rfl, _, _, rfl, _, _, rfl, rfl, ?_⟩
    dsimp only
    refine go_seq ?_
    have hF1 : upd (upd H F0 (.lst [.int (b : Int)])) tp (.tup [.ref F0, .int 0]) F0 = some (.lst (nI [b])) := by
      rw [upd_ne (ne_of_none upd_same ntp)]
      exact upd_same
    refine while_by (fun σ G => ∃ (l : List Nat) (a : Nat) (v4 v5 : Option V), σ = [some (.int (b : Int)), some (.ref sp), some (.ref F0), some (.int (a : Int)), v4, v5] ∧ Same H G ∧ G F0 = some (.lst (nI l)) ∧ l.Nodup ∧ (∀ x ∈ l, x < n) ∧ b ∈ l ∧ a ≤ l.length ∧
        (∀ p ∈ ps, (∃ i, i < a ∧ l[i]? = some p.2.1) → p.2.2 ∈ l) ∧ ∀ S : List Nat, b ∈ S → (∀ e ∈ ps.map (·.2), e.1 ∈ S → e.2 ∈ S) → ∀ x ∈ l, x ∈ S)
      (fun σ _ => match σ with | [_, _, _, some (.int a), _, _] => n - a.toNat | _ => 0)
      ⟨[b], 0, _, _, rfl, same_updN (same_updN (Same.refl _) nF0) ((same_up (o := .lst [.int (b : Int)]) nF0).free ntp), hF1, List.nodup_cons.mpr ⟨(fun z => by cases z), List.nodup_nil⟩, (fun x hx => by rw [List.mem_singleton.mp hx]; exact b0), List.mem_cons_self, Nat.zero_le _, (fun p _ ⟨i, hi, _⟩ => absurd hi (Nat.not_lt_zero _)), fun S hb _ x hx => by rw [List.mem_singleton.mp hx]; exact hb⟩ ?_ ?_
    · rintro σ G ⟨l, a, v4, v5, rfl, SG, hF, nd, ltn, bl, al, cl, mn⟩
      have len1 : l.length ≤ n := nd_len n l nd ltn
      refine ⟨_, rfl, _, rfl, _, l.length, rfl, .inl ⟨_, SqL.of hF, (nI_len l).symm⟩, _, _, rfl, rfl, _, rfl, ?_⟩
      by_cases c : a < l.length
      · rw [decide_eq_true (by omega)]
        refine iteT ?_
        obtain ⟨la, hla⟩ : ∃ la, l[a]? = some la := ⟨_, List.getElem?_eq_getElem c⟩
        refine ⟨_, rfl, .inl ⟨rfl, _, SqL.of hF⟩, _, rfl, sp, rfl, ⟨_, SG.seq hS⟩, fun D nD => ?_⟩
        have nFD : F0 ≠ D := ne_of_none hF nD
        refine lc_list (K := K) (a := sp) (xs := ps.map fun p => V.ref p.1) (fun i H' => ∃ ts : List Nat, ts.length ≤ i ∧ (∀ x, x ∈ ts ↔ ∃ p ∈ ps.take i, p.2.1 = la ∧ p.2.2 = x ∧ x ∉ l) ∧ H' = upd G D (.lst (nI ts)))
          ⟨[], Nat.le_refl _, (fun x => by simp), rfl⟩ (fun i H' _ ⟨_, _, _, e⟩ => by rw [e]; exact (SG.trans (same_up nD)).seq hS) ?_ ?_
        · rintro i y H' hi ⟨ts, tl, tm, rfl⟩
          rw [List.getElem?_map] at hi
          obtain ⟨p, hp, rfl⟩ := Option.map_eq_some_iff.mp hi
          have il : i < ps.length := (List.getElem?_eq_some_iff.mp hp).1
          have tk : ps.take (i + 1) = ps.take i ++ [p] := by rw [List.take_add_one, hp] <;> rfl
          have SD : Same G (upd G D (.lst (nI ts))) := same_up nD
          have hF' := SD _ _ hF
          refine ⟨p.1, _, rfl, same_seqT (SG.trans SD) (tup p (List.mem_of_getElem? hp)), rfl, _, _, rfl, _, _, rfl, rfl, ⟨rfl, ?_⟩⟩
          refine ⟨_, rfl, _, rfl, _, rfl, F0, _, _, .int (la : Int), rfl, rfl, SqL.of hF', atI_nat (by unfold nI; rw [List.getElem?_map, hla] <;> rfl), rfl, _, rfl, ?_⟩
          by_cases e1 : p.2.1 = la
          · rw [decide_eq_true (by rw [e1])]
            refine iteT ?_
            refine ⟨_, rfl, _, rfl, F0, _, rfl, .inl (SqL.of hF'), rfl, flat_nI l, _, rfl, ?_⟩
            rw [inV_nI]
            by_cases e2 : p.2.2 ∈ l
            · rw [decide_eq_true e2]
              refine iteF ?_
              refine ⟨ts, Nat.le_succ_of_le tl, fun x => ?_, rfl⟩
              rw [tm, tk]
              refine ⟨fun ⟨q, hq, r⟩ => ⟨q, List.mem_append_left _ hq, r⟩, fun ⟨q, hq, r1, r2, r3⟩ => ?_⟩
              rcases List.mem_append.mp hq with z | z
              · exact ⟨q, z, r1, r2, r3⟩
              · rw [List.mem_singleton.mp z] at r2
                exact absurd (r2 ▸ e2) r3
            · rw [decide_eq_false e2]
              refine iteT ?_
              refine ⟨_, rfl, _, upd_same, by rw [nI_len, sizeLine_eq]; omega, ts ++ [p.2.2], by rw [List.length_append]; show ts.length + 1 ≤ i + 1; omega, fun x => ?_, by rw [upd_upd]; exact congrArg (fun z => upd G D (.lst z)) (nI_app ts [p.2.2])⟩
              rw [tk, List.mem_append, tm, List.mem_singleton]
              refine ⟨fun z => ?_, fun ⟨q, hq, r1, r2, r3⟩ => ?_⟩
              · rcases z with ⟨q, hq, r⟩ | z
                · exact ⟨q, List.mem_append_left _ hq, r⟩
                · exact ⟨p, List.mem_append_right _ List.mem_cons_self, e1, z.symm, z ▸ e2⟩
              · rcases List.mem_append.mp hq with z | z
                · exact .inl ⟨q, z, r1, r2, r3⟩
                · rw [List.mem_singleton.mp z] at r2
                  exact .inr r2.symm
          · rw [decide_eq_false fun z => e1 (by injection z with z; omega)]
            refine iteF ?_
            refine iteF ?_
            refine ⟨ts, Nat.le_succ_of_le tl, fun x => ?_, rfl⟩
            rw [tm, tk]
            refine ⟨fun ⟨q, hq, r⟩ => ⟨q, List.mem_append_left _ hq, r⟩, fun ⟨q, hq, r1, r2, r3⟩ => ?_⟩
            rcases List.mem_append.mp hq with z | z
            · exact ⟨q, z, r1, r2, r3⟩
            · rw [List.mem_singleton.mp z] at r1
              exact absurd r1 e1
        · rintro H' ⟨ts, tl, tm, rfl⟩
          rw [List.length_map, List.take_length] at *
          have SD : Same G (upd G D (.lst (nI ts))) := same_up nD
          have eI : nI ts = (ts.map fun (x : Nat) => (x : Int)).map V.int := by unfold nI; rw [List.map_map] <;> rfl
          refine ⟨D, ts.map fun (x : Nat) => (x : Int), rfl, SqL.of (by rw [← eI]; exact upd_same), by rw [List.length_map]; omega, fun f cnt p1 hf hc np1 => ?_⟩
          rw [List.length_map] at hc
          refine ⟨p1, f, cnt, rfl, upd_same, by omega, fun ns p2 asc mem len np2 => ?_⟩
          have S1 := SD.trans (same_up (o := SetO w p1 f cnt) np1)
          have nn : ∀ j ∈ ns, 0 ≤ j ∧ j.toNat ∈ ts := fun j hj => by
            obtain ⟨y, hy, e⟩ := List.mem_map.mp ((hf j).mp ((mem j).mp hj))
            subst e
            exact ⟨Int.natCast_nonneg _, hy⟩
          rw [to_nats fun j hj => (nn j hj).1]
          obtain ⟨zs, ez⟩ : ∃ zs, zs = ns.map Int.toNat := ⟨_, rfl⟩
          rw [← ez]
          have S2 : Same G _ := S1.trans (same_up (o := .lst (nI zs)) np2)
          have zt : ∀ x, x ∈ zs ↔ x ∈ ts := fun x => by
            rw [ez]
            refine ⟨fun hx => ?_, fun hx => ?_⟩
            · obtain ⟨j, hj, e⟩ := List.mem_map.mp hx
              exact e ▸ (nn j hj).2
            · exact List.mem_map.mpr ⟨(x : Int), (mem _).mpr ((hf _).mpr (List.mem_map.mpr ⟨x, hx, rfl⟩)), Int.toNat_natCast x⟩
          have zn : zs.Nodup := by
            rw [ez]
            unfold List.Nodup
            rw [List.pairwise_map]
            refine List.Pairwise.imp_of_mem (fun {x y} hx hy z e => ?_) asc
            have a1 := (nn x hx).1
            have a2 := (nn y hy).1
            omega
          have zl : ∀ x ∈ zs, x ∉ l ∧ ∃ p ∈ ps, p.2.1 = la ∧ p.2.2 = x := fun x hx => by
            obtain ⟨q, hq, r1, r2, r3⟩ := (tm x).mp ((zt x).mp hx)
            exact ⟨r3, q, hq, r1, r2⟩
          have nd2 : (l ++ zs).Nodup := List.nodup_append.mpr ⟨nd, zn, fun x hx y hy e => (zl y hy).1 (e ▸ hx)⟩
          have lt2 : ∀ x ∈ l ++ zs, x < n := fun x hx => (List.mem_append.mp hx).elim (ltn x) fun z => by
            obtain ⟨_, q, hq, _, r2⟩ := zl x z
            exact r2 ▸ (lt q hq).2
          have len2 := nd_len n _ nd2 lt2
          rw [List.length_append] at len2
          refine ⟨F0, p2, _, _, rfl, rfl, S2 _ _ hF, upd_same, by rw [nI_len, nI_len, sizeLine_eq]; omega, ?_⟩
          rw [nI_app]
          refine ⟨_, rfl, _, _, rfl, rfl, ⟨l ++ zs, a + 1, v4, v5, rfl, fun c o e => ?_, upd_same, nd2, lt2, List.mem_append_left _ bl, by rw [List.length_append]; omega, fun p hp ⟨i, hi, hli⟩ => ?_, fun S hb hc x hx => ?_⟩, ?_⟩
          · rw [upd_ne (ne_of_none e nF0)]
            exact S2 _ _ (SG _ _ e)
          · by_cases e1 : i = a
            · rw [e1, List.getElem?_append_left c, hla] at hli
              by_cases e2 : p.2.2 ∈ l
              · exact List.mem_append_left _ e2
              · exact List.mem_append_right _ ((zt _).mpr ((tm _).mpr ⟨p, hp, (Option.some.inj hli).symm, rfl, e2⟩))
            · have hi2 : i < a := by omega
              rw [List.getElem?_append_left (by omega)] at hli
              exact List.mem_append_left _ (cl p hp ⟨i, hi2, hli⟩)
          · rcases List.mem_append.mp hx with z | z
            · exact mn S hb hc x z
            · obtain ⟨_, q, hq, r1, r2⟩ := zl x z
              have a1 := hc q.2 (List.mem_map.mpr ⟨q, hq, rfl⟩) (by rw [r1]; exact mn S hb hc la (List.mem_of_getElem? hla))
              rw [r2] at a1
              exact a1
          · show n - ((a : Int) + 1).toNat < n - ((a : Nat) : Int).toNat
            omega
      · rw [decide_eq_false (by omega)]
        refine iteF ?_
        have ea : a = l.length := by omega
        refine ⟨_, rfl, k F0 l G SG nF0 hF ⟨nd, bl, fun e he hx => ?_, mn⟩ ltn⟩
        obtain ⟨p, hp, rfl⟩ := List.mem_map.mp he
        obtain ⟨i, hi⟩ := List.mem_iff_getElem?.mp hx
        exact cl p hp ⟨i, by rw [ea]; exact (List.getElem?_eq_some_iff.mp hi).1, hi⟩
    · exact fun σ H Q Q' hq ⟨v, e1, u, e2, x, n, e3, e4, i, j, e5, e6, c, e7, q⟩ => ⟨v, e1, u, e2, x, n, e3, e4, i, j, e5, e6, c, e7, hq _ _ q⟩
end
end Vk
set_option Elab.async false
set_option linter.all false
set_option maxRecDepth 100000
set_option maxHeartbeats 4000000
namespace Vk
open PySem PySem.Spec PyProof.Rows L2 Vt
/-! ## a drawn machine, on paper -/
/-- two moves that leave or enter one state by one letter -/
def Clash (a b : Mv) : Prop := b.c = a.c ∧ (b.s = a.s ∨ b.t = a.t)
instance (a b : Mv) : Decidable (Clash a b) := inferInstanceAs (Decidable (b.c = a.c ∧ (b.s = a.s ∨ b.t = a.t)))
theorem mvLt_or {a b : Mv} (h : ¬ Clash a b) : mvLt a b ∨ mvLt b a := by
  unfold Clash at h
  unfold mvLt
  omega
theorem asc_sorted {ms : List (Addr × Mv)} (srt : (ms.map kp).Pairwise fun x y => leM x y = true) (nc : ms.Pairwise fun p q => ¬ Clash p.2 q.2) : Asc ms := by
  unfold Asc
  rw [List.pairwise_map] at srt ⊢
  refine (srt.and nc).imp fun {x y} ⟨h1, h2⟩ => ?_
  rcases mvLt_or h2 with z | z
  · exact leM_lt z x.1 y.1
  · have := leM_lt z y.1 x.1
    have h1' : leM (x.1, mvK x.2) (y.1, mvK y.2) = true := h1
    rw [this] at h1'
    cases h1'
theorem eK_of {e : Int} {a b : Mv} (h : eK e a = eK e b) : a.c = b.c ∧ (if e = 0 then a.s else a.t) = (if e = 0 then b.s else b.t) := by
  unfold eK at h
  injection h with q1 q2
  injection q2 with q2 _
  injection q1 with q1
  injection q2 with q2
  unfold sg at q1
  injection q1 with q1
  have := congrArg (fun a : Array Nat => a.toList) q1
  refine ⟨(List.cons.inj this).1, ?_⟩
  by_cases z0 : e = 0
  · rw [if_pos z0, if_pos z0] at *
    omega
  · rw [if_neg z0, if_neg z0] at *
    omega
theorem idx_lt {l : List Nat} {x : Nat} (h : x ∈ l) : l.idxOf x < l.length := List.idxOf_lt_length_iff.mpr h
theorem idx_get {l : List Nat} {x : Nat} (h : x ∈ l) : l[l.idxOf x]? = some x := by
  rw [List.getElem?_eq_getElem (idx_lt h), List.getElem_idxOf]
theorem idx_inj {l : List Nat} {x y : Nat} (hx : x ∈ l) (hy : y ∈ l) (e : l.idxOf x = l.idxOf y) : x = y := by
  have a := idx_get hx
  rw [e, idx_get hy] at a
  exact (Option.some.inj a).symm
theorem idx_at {l : List Nat} (nd : l.Nodup) {i x : Nat} (h : l[i]? = some x) : l.idxOf x = i := by
  obtain ⟨hi, rfl⟩ := List.getElem?_eq_some_iff.mp h
  exact nd.idxOf_getElem i hi
structure Drawn (wide b gl : Nat) (qs : List Mv) (A B kept : List Nat) : Prop where
  ha : Led (qs.map fun m => (m.s, m.t)) b A
  hb : Led (qs.map fun m => (m.t, m.s)) gl B
  ga : gl ∈ A
  al : ∀ x ∈ A, x < wide
  w9 : wide ≤ 999
  ok : ∀ m ∈ qs, OkMv wide m
  nc : qs.Pairwise fun a b => ¬ Clash a b
  kpt : kept = (List.range wide).filter fun k => decide (k ∈ A) && decide (k ∈ B)
section
variable {wide b gl : Nat} {qs : List Mv} {A B kept : List Nat}
theorem Drawn.mem (W : Drawn wide b gl qs A B kept) {k : Nat} : k ∈ kept ↔ k ∈ A ∧ k ∈ B := by
  rw [W.kpt, List.mem_filter, List.mem_range, Bool.and_eq_true, decide_eq_true_eq, decide_eq_true_eq]
  exact ⟨fun h => h.2, fun h => ⟨W.al k h.1, h⟩⟩
theorem Drawn.nd (W : Drawn wide b gl qs A B kept) : kept.Nodup := by
  rw [W.kpt]
  exact List.nodup_range.filter _
theorem Drawn.bB (W : Drawn wide b gl qs A B kept) : b ∈ B := by
  have h := W.ha.mn (A.filter fun k => decide (k ∈ B → b ∈ B)) (List.mem_filter.mpr ⟨W.ha.st, decide_eq_true fun z => z⟩) (fun e he hs => ?_) gl W.ga
  · exact of_decide_eq_true (List.mem_filter.mp h).2 W.hb.st
  · obtain ⟨m, hm, rfl⟩ := List.mem_map.mp he
    obtain ⟨h1, h2⟩ := List.mem_filter.mp hs
    refine List.mem_filter.mpr ⟨W.ha.cl _ (List.mem_map.mpr ⟨m, hm, rfl⟩) h1, decide_eq_true fun z => ?_⟩
    exact of_decide_eq_true h2 (W.hb.cl (m.t, m.s) (List.mem_map.mpr ⟨m, hm, rfl⟩) z)
theorem Drawn.bk (W : Drawn wide b gl qs A B kept) : b ∈ kept := W.mem.mpr ⟨W.ha.st, W.bB⟩
theorem Drawn.gk (W : Drawn wide b gl qs A B kept) : gl ∈ kept := W.mem.mpr ⟨W.ga, W.hb.st⟩
def wayM (kept : List Nat) (m : Mv) : Mv := ⟨kept.idxOf m.s, m.c, kept.idxOf m.t⟩
def ways (kept : List Nat) (qs : List Mv) : List Mv := (qs.filter fun m => decide (m.s ∈ kept) && decide (m.t ∈ kept)).map (wayM kept)
theorem mem_ways {m : Mv} : m ∈ ways kept qs ↔ ∃ q ∈ qs, q.s ∈ kept ∧ q.t ∈ kept ∧ wayM kept q = m := by
  unfold ways
  rw [List.mem_map]
  constructor
  · rintro ⟨q, hq, e⟩
    rw [List.mem_filter, Bool.and_eq_true, decide_eq_true_eq, decide_eq_true_eq] at hq
    exact ⟨q, hq.1, hq.2.1, hq.2.2, e⟩
  · rintro ⟨q, hq, h1, h2, e⟩
    exact ⟨q, by rw [List.mem_filter, Bool.and_eq_true, decide_eq_true_eq, decide_eq_true_eq]; exact ⟨hq, h1, h2⟩, e⟩
theorem ways_nc (nc : qs.Pairwise fun a b => ¬ Clash a b) : (ways kept qs).Pairwise fun a b => ¬ Clash a b := by
  unfold ways
  rw [List.pairwise_map]
  refine List.Pairwise.imp_of_mem (fun {x y} hx hy h z => h ?_) (nc.filter _)
  rw [List.mem_filter, Bool.and_eq_true, decide_eq_true_eq, decide_eq_true_eq] at hx hy
  exact ⟨z.1, z.2.imp (fun e => idx_inj hy.2.1 hx.2.1 e) fun e => idx_inj hy.2.2 hx.2.2 e⟩
theorem Drawn.fw (W : Drawn wide b gl qs A B kept) {es : List (Nat × Nat)} (he : ∀ m ∈ ways kept qs, (m.s, m.t) ∈ es) : Conn kept.length (kept.idxOf b) es := by
  intro S hS cl x hx
  obtain ⟨k, hk⟩ : ∃ k, kept[x]? = some k := ⟨_, List.getElem?_eq_getElem hx⟩
  have mk := W.mem.mp (List.mem_of_getElem? hk)
  have h := W.ha.mn (A.filter fun k => decide (k ∈ B → kept.idxOf k ∈ S)) (List.mem_filter.mpr ⟨W.ha.st, decide_eq_true fun _ => hS⟩) (fun e hee hs => ?_) k mk.1
  · have := of_decide_eq_true (List.mem_filter.mp h).2 mk.2
    rw [idx_at W.nd hk] at this
    exact this
  · obtain ⟨m, hm, rfl⟩ := List.mem_map.mp hee
    obtain ⟨h1, h2⟩ := List.mem_filter.mp hs
    have tA := W.ha.cl _ (List.mem_map.mpr ⟨m, hm, rfl⟩) h1
    refine List.mem_filter.mpr ⟨tA, decide_eq_true fun tB => ?_⟩
    have sB := W.hb.cl (m.t, m.s) (List.mem_map.mpr ⟨m, hm, rfl⟩) tB
    exact cl _ (he (wayM kept m) (mem_ways.mpr ⟨m, hm, W.mem.mpr ⟨h1, sB⟩, W.mem.mpr ⟨tA, tB⟩, rfl⟩)) (of_decide_eq_true h2 sB)
theorem Drawn.bw (W : Drawn wide b gl qs A B kept) (bl : ∀ x ∈ B, x < wide) {es : List (Nat × Nat)} (he : ∀ m ∈ ways kept qs, (m.t, m.s) ∈ es) : Conn kept.length (kept.idxOf gl) es := by
  intro S hS cl x hx
  obtain ⟨k, hk⟩ : ∃ k, kept[x]? = some k := ⟨_, List.getElem?_eq_getElem hx⟩
  have mk := W.mem.mp (List.mem_of_getElem? hk)
  have h := W.hb.mn (B.filter fun k => decide (k ∈ A → kept.idxOf k ∈ S)) (List.mem_filter.mpr ⟨W.hb.st, decide_eq_true fun _ => hS⟩) (fun e hee hs => ?_) k mk.2
  · have := of_decide_eq_true (List.mem_filter.mp h).2 mk.1
    rw [idx_at W.nd hk] at this
    exact this
  · obtain ⟨m, hm, rfl⟩ := List.mem_map.mp hee
    obtain ⟨h1, h2⟩ := List.mem_filter.mp hs
    have sB := W.hb.cl _ (List.mem_map.mpr ⟨m, hm, rfl⟩) h1
    refine List.mem_filter.mpr ⟨sB, decide_eq_true fun sA => ?_⟩
    have tA := W.ha.cl (m.s, m.t) (List.mem_map.mpr ⟨m, hm, rfl⟩) sA
    exact cl _ (he (wayM kept m) (mem_ways.mpr ⟨m, hm, W.mem.mpr ⟨sA, sB⟩, W.mem.mpr ⟨tA, h1⟩, rfl⟩)) (of_decide_eq_true h2 tA)
/-- the drawn machine is one -/
theorem Drawn.okM (W : Drawn wide b gl qs A B kept) (bl : ∀ x ∈ B, x < wide) (few : qs.length ≤ 3999) {ms : List (Addr × Mv)} (pm : (ms.map (·.2)).Perm (ways kept qs)) (srt : (ms.map kp).Pairwise fun x y => leM x y = true) : OkM kept.length (kept.idxOf b) (kept.idxOf gl) ms := by
  have nc : (ms.map (·.2)).Pairwise fun a b => ¬ Clash a b := pm.symm.pairwise (ways_nc W.nc) fun {x y} h z => h ⟨z.1.symm, z.2.imp Eq.symm Eq.symm⟩
  have nc2 : ms.Pairwise fun p q => ¬ Clash p.2 q.2 := List.pairwise_map.mp nc
  have len : kept.length ≤ wide := by
    rw [W.kpt]
    exact Nat.le_trans (List.length_filter_le _ _) (Nat.le_of_eq List.length_range)
  have bk := idx_lt W.bk
  have inW : ∀ p ∈ ms, ∃ q ∈ qs, q.s ∈ kept ∧ q.t ∈ kept ∧ wayM kept q = p.2 := fun p hp => mem_ways.mp (pm.mem_iff.mp (List.mem_map.mpr ⟨p, hp, rfl⟩))
  have w9 := W.w9
  refine ⟨by omega, by omega, bk, idx_lt W.gk, fun p hp => ?_, asc_sorted srt nc2, ?_, ?_, ?_, W.fw fun m hm => ?_, W.bw bl fun m hm => ?_⟩
  · obtain ⟨q, hq, h1, h2, e⟩ := inW p hp
    rw [← e]
    exact ⟨idx_lt h1, idx_lt h2, (W.ok q hq).2.2⟩
  · unfold List.Nodup
    rw [List.pairwise_map]
    exact nc2.imp fun {x y} h z => h ⟨(eK_of z).1.symm, .inl (by have := (eK_of z).2; rw [if_pos rfl, if_pos rfl] at this; exact this.symm)⟩
  · unfold List.Nodup
    rw [List.pairwise_map]
    exact nc2.imp fun {x y} h z => h ⟨(eK_of z).1.symm, .inr (by have := (eK_of z).2; rw [if_neg (by decide), if_neg (by decide)] at this; exact this.symm)⟩
  · have := pm.length_eq
    unfold ways at this
    rw [List.length_map, List.length_map] at this
    have := List.length_filter_le (fun m : Mv => decide (m.s ∈ kept) && decide (m.t ∈ kept)) qs
    omega
  · obtain ⟨p, hp, rfl⟩ := List.mem_map.mp (pm.mem_iff.mpr hm)
    exact List.mem_map.mpr ⟨p, hp, rfl⟩
  · obtain ⟨p, hp, rfl⟩ := List.mem_map.mp (pm.mem_iff.mpr hm)
    exact List.mem_map.mpr ⟨p, hp, rfl⟩
end
end Vk
set_option Elab.async false
set_option linter.all false
set_option maxRecDepth 100000
set_option maxHeartbeats 4000000
namespace Vk
open PySem PySem.Spec PyProof.Rows L2 Vt
theorem DeckAt.same {H H' : Hp} {d g : Addr} {n : Int} (D : DeckAt H d g n) (s : Same H H') : DeckAt H' d g n := by
  obtain ⟨m, l, h1, h2⟩ := D.dk
  obtain ⟨gs, h3, h4⟩ := D.gr
  exact ⟨⟨m, l, s _ _ h1, h2⟩, gs, s _ _ h3, h4⟩
/-- what stands at d is a dict, at g a list -/
theorem DeckAt.two {H : Hp} {d g : Addr} {n : Int} (D : DeckAt H d g n) : (∃ kvs, H d = some (.dK kvs)) ∧ ∃ xs, H g = some (.lst xs) := by
  obtain ⟨m, l, h1, h2⟩ := D.dk
  obtain ⟨gs, h3, h4⟩ := D.gr
  exact ⟨⟨_, h1⟩, _, h3⟩
/-- all but dicts and lists stays -/
def Off (H H' : Hp) : Prop := ∀ b o, H b = some o → (∀ kvs, o ≠ .dK kvs) → (∀ xs, o ≠ .lst xs) → H' b = some o
theorem off_same {H H' : Hp} (S : Same H H') : Off H H' := fun b o h _ _ => S b o h
theorem Off.trans {H H' H2 : Hp} (S : Off H H') (T : Off H' H2) : Off H H2 := fun b o h n1 n2 => T b o (S b o h n1 n2) n1 n2
theorem But.off {H H' : Hp} {d g : Addr} {n : Int} (B : But d g H H') (D : DeckAt H d g n) : Off H H' := fun b o h n1 n2 => by
  obtain ⟨⟨kvs, h1⟩, xs, h2⟩ := D.two
  exact B b o h (ne_of h h1 (n1 kvs)) (ne_of h h2 (n2 xs))
theorem off_lst {H : Hp} {L : Addr} {xs : List V} {o' : HO} (h : H L = some (.lst xs)) : Off H (upd H L o') := fun b o hb _ n2 => by
  rw [upd_ne (ne_of hb h (n2 xs))]
  exact hb
theorem Off.tup {K : PySem.W.Frag} {H H' : Hp} {b : Addr} {xs : List V} (S : Off H H') (h : SqT K H b xs) : SqT K H' b xs := by
  rcases h with (h | ⟨o, h⟩) | h
  · exact .inl (.inl (S _ _ h (fun _ z => by cases z) (fun _ z => by cases z)))
  · exact .inl (.inr ⟨o, S _ _ h (fun _ z => by cases z) (fun _ z => by cases z)⟩)
  · exact .inr h
theorem MvsAt.off {K : PySem.W.Frag} {H H' : Hp} {l : Addr} {ms : List (Addr × Mv)} (h : MvsAt K H l ms) (S : Off H H') : MvsAt K H' l ms := ⟨S.tup h.tp, fun p hp => S.tup (h.it p hp)⟩
theorem MachAt.off {K : PySem.W.Frag} {C a : Addr} {H H' : Hp} {n st la : Nat} {ms : List (Addr × Mv)} (h : MachAt K C H a n st la ms) (S : Off H H') : MachAt K C H' a n st la ms := by
  obtain ⟨dx, l, E, F, z, ha, hM, hE, hF⟩ := h.ob
  exact ⟨h.ok, dx, l, E, F, z, S _ _ ha (fun _ z => by cases z) (fun _ z => by cases z), hM.off S, S _ _ hE (fun _ z => by cases z) (fun _ z => by cases z), S _ _ hF (fun _ z => by cases z) (fun _ z => by cases z)⟩
theorem deck_upd {H : Hp} {d g D : Addr} {n : Int} {o : HO} (h : DeckAt H d g n) (n1 : d ≠ D) (n2 : g ≠ D) : DeckAt (upd H D o) d g n := by
  obtain ⟨mm, l, h1, h2⟩ := h.dk
  obtain ⟨gs, h3, h4⟩ := h.gr
  exact ⟨⟨mm, l, by rw [upd_ne n1]; exact h1, h2⟩, gs, by rw [upd_ne n2]; exact h3, h4⟩
theorem But.seq {d g a : Addr} {n : Int} {K : PySem.W.Frag} {H H' : Hp} {xs : List V} (e : But d g H H') (D : DeckAt H d g n) (ng : a ≠ g) (h : SqL K H a xs) : SqL K H' a xs := by
  obtain ⟨m, l, hd, _⟩ := D.dk
  rcases h with (h | ⟨o, h⟩) | h
  · exact .inl (.inl (e _ _ h (ne_of h hd (by intro z; cases z)) ng))
  · exact .inl (.inr ⟨o, e _ _ h (ne_of h hd (by intro z; cases z)) ng⟩)
  · exact .inr h
theorem But.trans {d g : Addr} {H H' H2 : Hp} (e : But d g H H') (f : But d g H' H2) : But d g H H2 := fun b o h n1 n2 => f b o (e b o h n1 n2) n1 n2
theorem but_same {d g : Addr} {H H' : Hp} (S : Same H H') : But d g H H' := fun b o h _ _ => S b o h
theorem sg_dec (a b : Nat) : decide (V.str (sg a) = V.str (sg b)) = decide (a = b) := by
  rw [Bool.eq_iff_iff, decide_eq_true_eq, decide_eq_true_eq]
  refine ⟨fun z => ?_, fun z => by rw [z]⟩
  injection z with z
  exact (List.cons.inj (congrArg (fun y : Str => y.cps.toList) z)).1
theorem int_dec (a b : Nat) : decide (V.int (a : Int) = V.int (b : Int)) = decide (a = b) := by
  rw [Bool.eq_iff_iff, decide_eq_true_eq, decide_eq_true_eq]
  refine ⟨fun z => ?_, fun z => by rw [z]⟩
  injection z with z
  omega
/-- tracked texts of the law's letters -/
def signsL : List V := [.str "a", .str "ab", .str "ab", .str "abc", .str "xyz"]
theorem signs_at {i : Nat} {v : V} (h : signsL[i]? = some v) : ∃ z : Str, v = .str z ∧ 0 < z.cps.size ∧ z.cps.size < 1000000 ∧ ∀ (j c : Nat), z.cps[j]? = some c → 97 ≤ c ∧ c ≤ 122 := by
  have fin : ∀ z : Str, (z.cps.toList.all fun c => decide (97 ≤ c ∧ c ≤ 122)) = true → ∀ (j c : Nat), z.cps[j]? = some c → 97 ≤ c ∧ c ≤ 122 := fun z h j c hj => by
    rw [← Array.getElem?_toList] at hj
    exact of_decide_eq_true (List.all_eq_true.mp h c (List.mem_of_getElem? hj))
  match i, h with
  | 0, rfl => exact ⟨"a", rfl, by decide, by decide, fin _ (by decide)⟩
  | 1, rfl => exact ⟨"ab", rfl, by decide, by decide, fin _ (by decide)⟩
  | 2, rfl => exact ⟨"ab", rfl, by decide, by decide, fin _ (by decide)⟩
  | 3, rfl => exact ⟨"abc", rfl, by decide, by decide, fin _ (by decide)⟩
  | 4, rfl => exact ⟨"xyz", rfl, by decide, by decide, fin _ (by decide)⟩
/-- rows of a list: moves -/
structure RowsM (H : Hp) (R : Addr) (qs : List (Addr × Mv)) : Prop where
  ls : H R = some (.lst (qs.map fun p => V.ref p.1))
  it : ∀ p ∈ qs, H p.1 = some (.tup (mvV p.2))
theorem RowsM.same {H H' : Hp} {R : Addr} {qs : List (Addr × Mv)} (h : RowsM H R qs) (S : Same H H') : RowsM H' R qs := ⟨S _ _ h.ls, fun p hp => S _ _ (h.it p hp)⟩
theorem RowsM.but {H H' : Hp} {R d g : Addr} {n : Int} {qs : List (Addr × Mv)} (h : RowsM H R qs) (D : DeckAt H d g n) (B : But d g H H') (ng : R ≠ g) : RowsM H' R qs := by
  obtain ⟨⟨kvs, h1⟩, xs, h2⟩ := D.two
  exact ⟨B _ _ h.ls (ne_of h.ls h1 (fun z => by cases z)) ng, fun p hp => B.off D _ _ (h.it p hp) (fun _ z => by cases z) (fun _ z => by cases z)⟩
/-- pairs of states in a list -/
structure PairsM (H : Hp) (R : Addr) (ps : List (Addr × Nat × Nat)) : Prop where
  ls : H R = some (.lst (ps.map fun p => V.ref p.1))
  it : ∀ p ∈ ps, H p.1 = some (.tup [.int (p.2.1 : Int), .int (p.2.2 : Int)])
theorem PairsM.add {G H : Hp} {R t : Addr} {ps : List (Addr × Nat × Nat)} {a b : Nat} (h : PairsM H R ps) (nt : H t = none) (gR : G R = none) (S : Same G H) :
    Same G (upd (upd H t (.tup [.int (a : Int), .int (b : Int)])) R (.lst ((ps.map fun p => V.ref p.1) ++ [.ref t]))) ∧ PairsM (upd (upd H t (.tup [.int (a : Int), .int (b : Int)])) R (.lst ((ps.map fun p => V.ref p.1) ++ [.ref t]))) R (ps ++ [(t, a, b)]) := by
  have nRt : R ≠ t := ne_of_none h.ls nt
  refine ⟨fun c o e => ?_, ?_, fun p hp => ?_⟩
  · rw [upd_ne (ne_of_none e gR), upd_ne (ne_of_none (S _ _ e) nt)]
    exact S _ _ e
  · rw [upd_same, List.map_append] <;> rfl
  · rcases List.mem_append.mp hp with z | z
    · have y := h.it p z
      rw [upd_ne (ne_of y h.ls (fun z => by cases z)), upd_ne (ne_of_none y nt)]
      exact y
    · rw [List.mem_singleton.mp z, upd_ne nRt.symm]
      exact upd_same
theorem RowsM.add {G H : Hp} {R t : Addr} {qs : List (Addr × Mv)} {m : Mv} (h : RowsM H R qs) (nt : H t = none) (gR : G R = none) (S : Same G H) :
    Same G (upd (upd H t (.tup (mvV m))) R (.lst ((qs.map fun p => V.ref p.1) ++ [.ref t]))) ∧ RowsM (upd (upd H t (.tup (mvV m))) R (.lst ((qs.map fun p => V.ref p.1) ++ [.ref t]))) R (qs ++ [(t, m)]) := by
  have nRt : R ≠ t := ne_of_none h.ls nt
  refine ⟨fun c o e => ?_, ?_, fun p hp => ?_⟩
  · rw [upd_ne (ne_of_none e gR), upd_ne (ne_of_none (S _ _ e) nt)]
    exact S _ _ e
  · rw [upd_same, List.map_append] <;> rfl
  · rcases List.mem_append.mp hp with z | z
    · have y := h.it p z
      rw [upd_ne (ne_of y h.ls (fun z => by cases z)), upd_ne (ne_of_none y nt)]
      exact y
    · rw [List.mem_singleton.mp z, upd_ne nRt.symm]
      exact upd_same
theorem if_int {c : Prop} [Decidable c] {σ : L2.St} {H : Hp} {Q : VK} {i j x y : Nat} (hx : σ[i]? = some (some (.int (x : Int)))) (hy : σ[j]? = some (some (.int (y : Int)))) (h : Q (.int (((if c then x else y) : Nat) : Int)) H) : if decide c = true then tVar i σ H Q else tVar j σ H Q := by
  by_cases e : c
  · rw [decide_eq_true e]
    rw [if_pos e] at h
    exact iteT ⟨_, hx, h⟩
  · rw [decide_eq_false e]
    rw [if_neg e] at h
    exact iteF ⟨_, hy, h⟩
theorem idx_nI {l : List Nat} {x : Nat} (h : x ∈ l) : (nI l)[l.idxOf x]? = some (.int (x : Int)) ∧ eqV (.int (x : Int)) (.int (x : Int)) = true ∧ ∀ (m : Nat) (z' : V), m < l.idxOf x → (nI l)[m]? = some z' → eqV z' (.int (x : Int)) = false := by
  refine ⟨?_, by rw [eqV_int, decide_eq_true rfl], fun m z' hm hz => ?_⟩
  · unfold nI
    rw [List.getElem?_map, idx_get h] <;> rfl
  · unfold nI at hz
    rw [List.getElem?_map] at hz
    obtain ⟨y, hy, rfl⟩ := Option.map_eq_some_iff.mp hz
    rw [eqV_int]
    refine decide_eq_false fun e => ?_
    subst e
    have h2 : l.idxOf y ≤ m := by
      have hml : m < l.length := (List.getElem?_eq_some_iff.mp hy).1
      refine Nat.le_of_not_lt fun q => ?_
      have := List.not_of_lt_findIdx (p := (· == y)) (xs := l) q
      rw [(List.getElem?_eq_some_iff.mp hy).2] at this
      simp at this
    omega
theorem perm_of_map {α β : Type} {f : α → β} {l₁ l₂ : List β} (p : l₁.Perm l₂) : ∀ xs : List α, xs.map f = l₂ → ∃ ys : List α, ys.Perm xs ∧ ys.map f = l₁ := by
  induction p with
  | nil =>
    intro xs h
    rw [List.map_eq_nil_iff.mp h]
    exact ⟨[], .nil, rfl⟩
  | cons x p ih =>
    intro xs h
    obtain ⟨y, ys, rfl, rfl, h2⟩ := List.map_eq_cons_iff.mp h
    obtain ⟨zs, pz, ez⟩ := ih ys h2
    exact ⟨y :: zs, pz.cons y, by rw [List.map_cons, ez]⟩
  | swap x y l =>
    intro xs h
    obtain ⟨a, r, rfl, rfl, h2⟩ := List.map_eq_cons_iff.mp h
    obtain ⟨b, s, rfl, rfl, h3⟩ := List.map_eq_cons_iff.mp h2
    exact ⟨b :: a :: s, .swap a b s, by rw [List.map_cons, List.map_cons, h3]⟩
  | trans p q ih1 ih2 =>
    intro xs h
    obtain ⟨ys, py, ey⟩ := ih2 xs h
    obtain ⟨zs, pz, ez⟩ := ih1 ys ey
    exact ⟨zs, pz.trans py, ez⟩
theorem filter_range (p : Nat → Bool) (n : Nat) : (List.range (n + 1)).filter p = (List.range n).filter p ++ if p n = true then [n] else [] := by
  rw [List.range_succ, List.filter_append, List.filter_cons, List.filter_nil]
theorem kp_alike (ms : List (Addr × Mv)) : PySem.W.AllAlike ((ms.map kp).map encM) := by
  intro a ha b hb
  obtain ⟨x, hx, rfl⟩ := List.mem_map.mp ha
  obtain ⟨y, hy, rfl⟩ := List.mem_map.mp hb
  obtain ⟨p, _, rfl⟩ := List.mem_map.mp hx
  obtain ⟨q, _, rfl⟩ := List.mem_map.mp hy
  rfl
theorem ways_take {kept : List Nat} {qs : List (Addr × Mv)} {i : Nat} {p : Addr × Mv} (h : qs[i]? = some p) : ways kept ((qs.take (i + 1)).map (·.2)) = ways kept ((qs.take i).map (·.2)) ++ (if (decide (p.2.s ∈ kept) && decide (p.2.t ∈ kept)) = true then [wayM kept p.2] else []) := by
  unfold ways
  rw [List.take_add_one, h]
  show List.map _ (List.filter _ (List.map _ (List.take i qs ++ [p]))) = _
  rw [List.map_append, List.filter_append, List.map_append, List.map_cons, List.map_nil, List.filter_cons, List.filter_nil]
  split <;> rfl
theorem rin {K : PySem.W.Frag} {H : Hp} {Q : VK} {p : Addr} {l : List Nat} {x : Nat} (h : H p = some (.lst (nI l))) (q : Q (.bl (decide (x ∈ l))) H) : rIn K false (.int (x : Int)) (.ref p) H Q :=
  ⟨p, _, rfl, .inl (SqL.of h), rfl, flat_nI _, by rw [if_neg Bool.false_ne_true, inV_nI]; exact q⟩
theorem ridx {K : PySem.W.Frag} {H : Hp} {Q : VK} {p : Addr} {l : List Nat} {x : Nat} (h : H p = some (.lst (nI l))) (m : x ∈ l) (q : Q (.int ((l.idxOf x : Nat) : Int)) H) : rIndex K (.ref p) [.int (x : Int)] H Q :=
  let ⟨i1, i2, i3⟩ := idx_nI m
  ⟨p, _, _, _, _, rfl, rfl, SqL.of h, rfl, flat_nI _, i1, i2, i3, q⟩
/-- xs.index(y), also in a comprehension -/
theorem pe_index {X : Cx} {K : PySem.W.Frag} (hK : X.K = K) {o e : Expr} {to : TE} {t : TA} {apos cpos : Pos} (ho : PE X o to) (ha : PA X [e] t)
    (hbase : attributeBase o "index" X.env (eval o X.env) = eval o X.env)
    (hfew : ((backTo cpos (starEach [e] X.env)).all (fun x => !x.1) && (backToKw cpos (keywordEach [] X.env)).all (fun x => x.1.isSome)
      && decide ([e].length + ([] : List Keyword).length + (if ([] : List Keyword).isEmpty then 0 else 1) < 30)) = true)
    (hline : (apos.endLine == cpos.line) = true) (hs : starEach [e] X.env = (false, eval e X.env) :: starEach [] X.env) (hplain : (backTo cpos (starEach [] X.env)).any (·.1) = false) :
    PE X (.Call (.Attribute o "index" apos) [e] [] cpos) (tBM K "list" (rIndex K) to t) := by
  subst hK
  exact pe_bm PySem.F.plainAttrs_list PySem.F.slot_list_index PySem.F.type_list_index mt_index ho ha hbase hfew hline hs hplain
section
variable {P : Program} {w : World} {K : PySem.W.Frag} {mg : Str → Option Value} {base : Heap}
/-- an item of a list -/
def spPickL (K : PySem.W.Frag) : Sp := fun vs H Q _ => ∃ (d g a : Addr) (n : Int) (xs : List V), vs = [.ref d, .ref a] ∧ DeckAt H d g n ∧ n < 1000000000 ∧ SqL K H a xs ∧ 0 < xs.length ∧ xs.length < 1000000 ∧ a ≠ g ∧
  ∀ (i : Nat) (v : V) (H' : Hp), xs[i]? = some v → DeckAt H' d g (n + 1) → But d g H H' → Q v H'
theorem ok_pickL {f fD : Addr} {fd fdD : FuncData} (F : Fun K "_law_pick" "_law_pick" sPick f fd) (FD : Fun K "_law_draw" "_law_draw" sDraw fD fdD) (gD : mg "_law_draw" = some (.ref fD)) (bD : Binds K fdD ["_law_deck_here", "_law_below"] []) (GD : FnOk P w K mg base CX0 1 fD fdD ["_law_deck_here", "_law_below"] spDraw) (ml : mg "len" = none) :
    FnOk P w K mg base CX0 2 f fd ["_law_deck_here", "_law_menu"] (spPickL K) := by
  refine F.ok scPk (fun vs H Q E h => ?_) (fun cdv A outer s H vs Q E hr h => ?_)
  · obtain ⟨d, g, a, n, xs, rfl, _⟩ := h
    rfl
  · obtain ⟨d, g, a, n, xs, rfl, D, hn, hS, h0, h1, ng, k⟩ := h
    refine ⟨_, pss_one (ps_ret (pe_ix ix_list (pv 1) (pe_call GD hr rfl gD FD.kp bD .nil pass0 (pa_cons (pv 0) (pa_cons (pe_callB call_len_seq (by rfl) ml PySem.boot_len (pa_cons (pv 1) pa_nil)) pa_nil))) (fun _ _ => rfl))), ?_⟩
    refine ⟨_, rfl, _, rfl, _, rfl, a, _, rfl, .inl hS, d, g, _, n, rfl, D, by omega, by omega, hn, fun r H' r0 r1 D' bt => ?_⟩
    obtain ⟨i, rfl⟩ : ∃ i : Nat, r = (i : Int) := ⟨r.toNat, by omega⟩
    have hi : i < xs.length := by omega
    have hv : xs[i]? = some xs[i] := List.getElem?_eq_getElem hi
    exact ⟨a, xs, _, xs[i], rfl, rfl, bt.seq D ng hS, atI_nat hv, k i _ H' hv D' bt⟩
end
end Vk
set_option Elab.async false
set_option linter.all false
set_option maxRecDepth 100000
set_option maxHeartbeats 4000000
namespace Vk
open PySem PySem.Spec PyProof.Rows L2 Vt
abbrev sWorld : Stmt := top8 62
def planK (n st la : Nat) (l : Addr) : List (Key × V) := [(.inr "size", .int (n : Int)), (.inr "first", .int (st : Int)), (.inr "last", .int (la : Int)), (.inr "moves", .ref l)]
section
variable {P : Program} {w : World} {K : PySem.W.Frag} {mg : Str → Option Value} {base : Heap}
/-- a drawn machine's parts, in a dict -/
def spWorld (K : PySem.W.Frag) : Sp := fun vs H Q _ => ∃ (d g : Addr) (m : Int) (top many : Nat), vs = [.ref d, .int (top : Int), .int (many : Int)] ∧ DeckAt H d g m ∧ 1 ≤ top ∧ top ≤ 8 ∧ many ≤ 20 ∧ m < 900000000 ∧
  ∀ (q l : Addr) (n st la : Nat) (ms : List (Addr × Mv)) (H' : Hp) (m' : Int), But d g H H' → H q = none → H' q = some (.dK (planK n st la l)) → MvsAt K H' l ms → OkM n st la ms → n ≤ top → ms.length ≤ many → DeckAt H' d g m' → m' ≤ m + 70 → Q (.ref q) H'
theorem scWo : FnScope ["_law_deck_here", "_law_top", "_law_many", "_law_wide", "_law_signs", "_law_rows", "_law_k", "_law_row", "_law_s", "_law_x", "_law_t", "_law_begin", "_law_goal", "_law_ahead", "_law_homes", "_law_kept", "_law_ways"] ["_law_deck_here", "_law_top", "_law_many"] (defScope sWorld) := ⟨rfl, rfl, rfl, by decide +kernel, rfl, by decide +kernel, by decide +kernel⟩
theorem ok_world {f fDr fPi fLd : Addr} {fd fdDr fdPi fdLd : FuncData} (F : Fun K "_law_world" "_law_world" sWorld f fd) (T : Txt8 K mg)
    (GDr : FnOk P w K mg base CX0 1 fDr fdDr ["_law_deck_here", "_law_below"] spDraw) (gDr : mg "_law_draw" = some (.ref fDr)) (kDr : PySem.W.keepIn K (.ref fDr) = true) (bDr : Binds K fdDr ["_law_deck_here", "_law_below"] [])
    (GPs : FnOk P w K mg base CX0 2 fPi fdPi ["_law_deck_here", "_law_menu"] spPickS) (GPl : FnOk P w K mg base CX0 2 fPi fdPi ["_law_deck_here", "_law_menu"] (spPickL K)) (gPi : mg "_law_pick" = some (.ref fPi)) (kPi : PySem.W.keepIn K (.ref fPi) = true) (bPi : Binds K fdPi ["_law_deck_here", "_law_menu"] [])
    (GLd : FnOk P w K mg base CX0 1 fLd fdLd ["_law_begin", "_law_pairs"] (spLed K)) (gLd : mg "_law_led" = some (.ref fLd)) (kLd : PySem.W.keepIn K (.ref fLd) = true) (bLd : Binds K fdLd ["_law_begin", "_law_pairs"] []) :
    FnOk P w K mg base CX0 3 f fd ["_law_deck_here", "_law_top", "_law_many"] (spWorld K) := by
  refine F.ok scWo (fun vs H Q E h => ?_) (fun cdv A outer s H vs Q E hr h => ?_)
  · obtain ⟨d, g, m, top, many, rfl, _⟩ := h
    rfl
  · obtain ⟨d, g, m, top, many, rfl, DD0, t1, t2, m2, mB, k⟩ := h
    have hr1 : Room 1 _ := hr.mono (by decide)
    have hr2 : Room 2 _ := hr
    refine ⟨_, (pss_cons (ps_par3 (i := 3) (j := 4) (l := 5) (by rfl) scWo.nd rfl rfl rfl (by decide) (by decide) (by decide) rfl rfl rfl (pa_cons (pe_op op_add pe_int (pe_call GDr hr1 rfl gDr kDr bDr .nil pass0 (pa_cons (pv 0) (pa_cons (pv 1) pa_nil)))) (pa_cons (pe_call GPl hr2 rfl gPi kPi bPi .nil pass0 (pa_cons (pv 0) (pa_cons (pe_lst (pa_cons pe_str (pa_cons pe_str (pa_cons pe_str (pa_cons pe_str (pa_cons pe_str pa_nil)))))) pa_nil))) (pa_cons (pe_lst pa_nil) pa_nil))) (by rfl))
        (pss_cons (ps_for PassesOwn.never rfl (pi_range1 (by rfl) T.rng (pa_cons (pe_call GDr hr1 rfl gDr kDr bDr .nil pass0 (pa_cons (pv 0) (pa_cons (pe_op op_add (pv 2) pe_int) pa_nil))) pa_nil)) (pg_name (i := 6) scWo.nd rfl (.inl rfl)) (pss_cons (ps_set (i := 7) scWo.nd rfl (.inr rfl) (pe_tup (pa_cons (pe_call GDr hr1 rfl gDr kDr bDr .nil pass0 (pa_cons (pv 0) (pa_cons (pv 3) pa_nil))) (pa_cons (pe_call GPs hr2 rfl gPi kPi bPi .nil pass0 (pa_cons (pv 0) (pa_cons (pv 4) pa_nil))) (pa_cons (pe_call GDr hr1 rfl gDr kDr bDr .nil pass0 (pa_cons (pv 0) (pa_cons (pv 3) pa_nil))) pa_nil)))))
        (pss_one (ps_if (pt_cmpR (op_eqD hr.units) (pe_lc (own := [("_law_s", 8), ("_law_x", 9), ("_law_t", 10)]) (g := (gTup K 3 (gCons (gName 8) (gCons (gName 9) (gCons (gName 10) gNil))))) (by rfl) scWo.nd (pi_list (pv 5)) (blkOk_by (own := [("_law_s", 8), ("_law_x", 9), ("_law_t", 10)]) (N := ["_law_deck_here", "_law_top", "_law_many", "_law_wide", "_law_signs", "_law_rows", "_law_k", "_law_row", "_law_s", "_law_x", "_law_t", "_law_begin", "_law_goal", "_law_ahead", "_law_homes", "_law_kept", "_law_ways"]) (sc := defScope sWorld) (by decide +kernel)) (fun _ _ _ _ _ => (pg_tup (by rfl) (pgs_cons (pg_name (i := 8) scWo.nd rfl (.inl rfl)) (pgs_cons (pg_name (i := 9) scWo.nd rfl (.inl rfl)) (pgs_cons (pg_name (i := 10) scWo.nd rfl (.inl rfl)) pgs_nil))))) (fun _ _ _ _ _ => (pts_one (PW.pt (pw_and (pt_cmpR op_eq (pv 9) (pe_ix (r := rIxT K) ix_tup (pv 7) pe_int (fun _ _ => rfl)) (nomark _)) (pw_and1 (PW.pt (pw_or (pt_cmpR op_eq (pv 8) (pe_ix (r := rIxT K) ix_tup (pv 7) pe_int (fun _ _ => rfl)) (nomark _)) (pw_or1 (pt_cmpR op_eq (pv 10) (pe_ix (r := rIxT K) ix_tup (pv 7) pe_int (fun _ _ => rfl)) (nomark _)))))))))) (fun _ _ _ _ _ => pe_int)) (pe_lst pa_nil) (nomark _)) (pss_one (ps_expr (pe_bm PySem.F.plainAttrs_list PySem.F.slot_list_append PySem.F.type_list_append mt_append (pv 5) (pa_cons (pv 7) pa_nil)))) pss_nil))))
        (pss_cons (ps_par (i := 11) (j := 12) (by rfl) scWo.nd rfl rfl (by decide) rfl rfl (pa_cons (pe_call GDr hr1 rfl gDr kDr bDr .nil pass0 (pa_cons (pv 0) (pa_cons (pv 3) pa_nil))) (pa_cons (pe_call GDr hr1 rfl gDr kDr bDr .nil pass0 (pa_cons (pv 0) (pa_cons (pv 3) pa_nil))) pa_nil)) (by rfl))
        (pss_cons (ps_set (i := 13) scWo.nd rfl (.inr rfl) (pe_call GLd hr1 rfl gLd kLd bLd .nil pass0 (pa_cons (pv 11) (pa_cons (pe_lc (own := [("_law_s", 8), ("_law_x", 9), ("_law_t", 10)]) (g := (gTup K 3 (gCons (gName 8) (gCons (gName 9) (gCons (gName 10) gNil))))) (by rfl) scWo.nd (pi_list (pv 5)) (blkOk_by (own := [("_law_s", 8), ("_law_x", 9), ("_law_t", 10)]) (N := ["_law_deck_here", "_law_top", "_law_many", "_law_wide", "_law_signs", "_law_rows", "_law_k", "_law_row", "_law_s", "_law_x", "_law_t", "_law_begin", "_law_goal", "_law_ahead", "_law_homes", "_law_kept", "_law_ways"]) (sc := defScope sWorld) (by decide +kernel)) (fun _ _ _ _ _ => (pg_tup (by rfl) (pgs_cons (pg_name (i := 8) scWo.nd rfl (.inl rfl)) (pgs_cons (pg_name (i := 9) scWo.nd rfl (.inl rfl)) (pgs_cons (pg_name (i := 10) scWo.nd rfl (.inl rfl)) pgs_nil))))) (fun _ _ _ _ _ => pts_nil) (fun _ _ _ _ _ => (pe_tup (pa_cons (pv 8) (pa_cons (pv 10) pa_nil))))) pa_nil))))
        (pss_cons (ps_set (i := 12) scWo.nd rfl (.inl rfl) (pe_ifExp (pt_cmpR op_in_seq (pv 12) (pv 13) (by rfl)) (pv 12) (pv 11)))
        (pss_cons (ps_set (i := 14) scWo.nd rfl (.inr rfl) (pe_call GLd hr1 rfl gLd kLd bLd .nil pass0 (pa_cons (pv 12) (pa_cons (pe_lc (own := [("_law_s", 8), ("_law_x", 9), ("_law_t", 10)]) (g := (gTup K 3 (gCons (gName 8) (gCons (gName 9) (gCons (gName 10) gNil))))) (by rfl) scWo.nd (pi_list (pv 5)) (blkOk_by (own := [("_law_s", 8), ("_law_x", 9), ("_law_t", 10)]) (N := ["_law_deck_here", "_law_top", "_law_many", "_law_wide", "_law_signs", "_law_rows", "_law_k", "_law_row", "_law_s", "_law_x", "_law_t", "_law_begin", "_law_goal", "_law_ahead", "_law_homes", "_law_kept", "_law_ways"]) (sc := defScope sWorld) (by decide +kernel)) (fun _ _ _ _ _ => (pg_tup (by rfl) (pgs_cons (pg_name (i := 8) scWo.nd rfl (.inl rfl)) (pgs_cons (pg_name (i := 9) scWo.nd rfl (.inl rfl)) (pgs_cons (pg_name (i := 10) scWo.nd rfl (.inl rfl)) pgs_nil))))) (fun _ _ _ _ _ => pts_nil) (fun _ _ _ _ _ => (pe_tup (pa_cons (pv 10) (pa_cons (pv 8) pa_nil))))) pa_nil))))
        (pss_cons (ps_set (i := 15) scWo.nd rfl (.inr rfl) (pe_lc (own := [("_law_k", 6)]) (g := (gName 6)) (by rfl) scWo.nd (pi_range1 (by rfl) T.rng (pa_cons (pv 3) pa_nil)) (blkOk_by (own := [("_law_k", 6)]) (N := ["_law_deck_here", "_law_top", "_law_many", "_law_wide", "_law_signs", "_law_rows", "_law_k", "_law_row", "_law_s", "_law_x", "_law_t", "_law_begin", "_law_goal", "_law_ahead", "_law_homes", "_law_kept", "_law_ways"]) (sc := defScope sWorld) (by decide +kernel)) (fun _ _ _ _ _ => (pg_name (i := 6) scWo.nd rfl (.inl rfl))) (fun _ _ _ _ _ => (pts_one (PW.pt (pw_and (pt_cmpR (r := rIn K false) op_in_seq (pv 6) (pv 13) (by rfl)) (pw_and1 (pt_cmpR (r := rIn K false) op_in_seq (pv 6) (pv 14) (by rfl))))))) (fun _ _ _ _ _ => (pv 6))))
        (pss_cons (ps_setLc (i := 16) (own := [("_law_s", 8), ("_law_x", 9), ("_law_t", 10)]) (g := (gTup K 3 (gCons (gName 8) (gCons (gName 9) (gCons (gName 10) gNil))))) (by rfl) scWo.nd rfl rfl (sw_true rfl rfl rfl (by decide +kernel)) (pi_list (pv 5)) (blkOk_by (own := [("_law_s", 8), ("_law_x", 9), ("_law_t", 10)]) (N := ["_law_deck_here", "_law_top", "_law_many", "_law_wide", "_law_signs", "_law_rows", "_law_k", "_law_row", "_law_s", "_law_x", "_law_t", "_law_begin", "_law_goal", "_law_ahead", "_law_homes", "_law_kept", "_law_ways"]) (sc := defScope sWorld) (by decide +kernel)) (fun _ _ _ _ _ => (pg_tup (by rfl) (pgs_cons (pg_name (i := 8) scWo.nd rfl (.inl rfl)) (pgs_cons (pg_name (i := 9) scWo.nd rfl (.inl rfl)) (pgs_cons (pg_name (i := 10) scWo.nd rfl (.inl rfl)) pgs_nil))))) (fun _ _ _ _ _ => (pts_one (PW.pt (pw_and (pt_cmpR (r := rIn K false) op_in_seq (pv 8) (pv 15) (by rfl)) (pw_and1 (pt_cmpR (r := rIn K false) op_in_seq (pv 10) (pv 15) (by rfl))))))) (fun _ _ _ _ _ => (pe_tup (pa_cons (pe_index (K := K) (by rfl) (pv 15) (pa_cons (pv 8) pa_nil) (by rfl) (by rfl) (by rfl) (by rfl) (by rfl)) (pa_cons (pv 9) (pa_cons (pe_index (K := K) (by rfl) (pv 15) (pa_cons (pv 10) pa_nil) (by rfl) (by rfl) (by rfl) (by rfl) (by rfl)) pa_nil))))))
        (pss_one (ps_ret (pe_disp (pps_cons pe_str (pe_callB call_len (by rfl) T.len PySem.boot_len (pa_cons (pv 15) pa_nil)) (pps_cons pe_str (pe_index (K := K) (by rfl) (pv 15) (pa_cons (pv 11) pa_nil) (by rfl) (by rfl) (by rfl) (by rfl) (by rfl)) (pps_cons pe_str (pe_index (K := K) (by rfl) (pv 15) (pa_cons (pv 12) pa_nil) (by rfl) (by rfl) (by rfl) (by rfl) (by rfl)) (pps_cons pe_str (pe_callTy call_tuple_of (by rfl) T.tup (by decide +kernel) (pa_cons (pe_callB (cr_sortedL hr.units) (by rfl) T.srt (by decide +kernel) (pa_cons (pv 16) pa_nil)) pa_nil)) pps_nil)))) (by rfl) (by rfl) (fun z => by cases z) (by decide)))))))))))), ?_⟩
    refine ⟨_, rfl, _, rfl, d, g, _, m, rfl, DD0, by omega, by omega, by omega, fun r0 H1 r00 r01 D1 B1 => ⟨_, _, rfl, rfl, ?_⟩⟩
    refine ⟨_, rfl, by show 5 ≤ sizeLine; decide, fun Lp nLp => ?_⟩
    have SL1 := same_up (o := .lst signsL) nLp
    obtain ⟨⟨kd1, hd1⟩, xg1, hg1⟩ := D1.two
    have ngL : Lp ≠ g := (ne_of_none hg1 nLp).symm
    refine ⟨d, g, Lp, m + 1, signsL, rfl, D1.same SL1, by omega, SqL.of upd_same, by decide, by decide, ngL, fun iz v H2 hz D2 B2 => ?_⟩
    refine ⟨Nat.zero_le _, fun R nR => ⟨_, _, _, rfl, ?_⟩⟩
    obtain ⟨z, rfl, z0, z1, zin⟩ := signs_at hz
    obtain ⟨W, eW⟩ : ∃ W : Nat, (W : Int) = 1 + r0 := ⟨(1 + r0).toNat, by omega⟩
    have W1 : 1 ≤ W := by omega
    have W2 : W ≤ top := by omega
    dsimp only
    rw [← eW]
    have S3 := same_up (o := .lst []) nR
    have D3 := D2.same S3
    obtain ⟨⟨kd2, hd2⟩, xg2, hg2⟩ := D2.two
    have ndR : d ≠ R := ne_of_none hd2 nR
    have ngR : g ≠ R := ne_of_none hg2 nR
    have nR2 := nR
    have B3 : But d g H (upd H2 R (.lst [])) := ((B1.trans (but_same SL1)).trans B2).trans (but_same S3)
    have nR0 : H R = none := by
      cases e : H R with
      | none => rfl
      | some o =>
        have := ((B1.trans (but_same SL1)).trans B2) R o e ndR.symm ngR.symm
        rw [this] at nR
        cases nR
    have hR3 : upd H2 R (.lst []) R = some (.lst []) := upd_same
    clear hd1 hg1 SL1 hd2 hg2
    refine ⟨_, rfl, _, rfl, _, _, rfl, rfl, d, g, _, m + 1 + 1, rfl, D3, by omega, by omega, by omega, fun r1 H4 r10 r11 D4 B4 => ⟨r1, rfl, by omega, by omega, ?_⟩⟩
    have hR4 := B4 _ _ hR3 ndR.symm ngR.symm
    refine for_range (lo := 0) (n := r1.toNat) (fun i σ H' => ∃ (m2 : Int) (x6 x7 : Option V) (qs : List (Addr × Mv)), σ = [some (.ref d), some (.int (top : Int)), some (.int (many : Int)), some (.int (W : Int)), some (.str z), some (.ref R), x6, x7, none, none, none, none, none, none, none, none, none] ∧ DeckAt H' d g m2 ∧ m2 ≤ m + 3 + 3 * (i : Int) ∧
        But d g H H' ∧ RowsM H' R qs ∧ (∀ p ∈ qs, OkMv W p.2) ∧ (qs.map (·.2)).Pairwise (fun a b => ¬ Clash a b) ∧ qs.length ≤ i)
      ⟨m + 3, _, _, [], rfl, (show m + 1 + 1 + 1 = m + 3 by omega) ▸ D4, by omega, B3.trans B4, ⟨hR4, fun p hp => nomatch hp⟩, (fun p hp => nomatch hp), List.Pairwise.nil, Nat.le_refl _⟩ ?_ ?_
    · rintro i σ H5 hi ⟨m2, x6, x7, qs, rfl, D5, hm2, B5, R5, ok5, nc5, len5⟩
      have ir : i < 21 := by omega
      refine ⟨_, rfl, _, rfl, d, g, _, m2, rfl, D5, by omega, by omega, by omega, fun s0 H6 s00 s01 D6 B6 => ?_⟩
      refine ⟨_, rfl, _, rfl, d, g, m2 + 1, z, rfl, D6, by omega, z0, z1, fun ix c H7 hc D7 B7 => ?_⟩
      refine ⟨_, rfl, _, rfl, d, g, _, m2 + 1 + 1, rfl, D7, by omega, by omega, by omega, fun t0 H8 t00 t01 D8 B8 => ⟨by show 3 ≤ sizeLine; decide, fun rw nrw => ?_⟩⟩
      obtain ⟨s, es⟩ : ∃ s : Nat, (s : Int) = s0 := ⟨s0.toNat, by omega⟩
      obtain ⟨t, et⟩ : ∃ t : Nat, (t : Int) = t0 := ⟨t0.toNat, by omega⟩
      rw [← es, ← et]
      obtain ⟨mv, emv⟩ : ∃ mv : Mv, mv = ⟨s, c, t⟩ := ⟨_, rfl⟩
      have etup : ([.int (s : Int), .str (sg c), .int (t : Int)] : List V) = mvV mv := by rw [emv] <;> rfl
      rw [etup]
      have okm : OkMv W mv := by
        rw [emv]
        exact ⟨by show s < W; omega, by show t < W; omega, zin ix c hc⟩
      have R8 := ((R5.but D5 B6 ngR.symm).but D6 B7 ngR.symm).but D7 B8 ngR.symm
      have S9 := same_up (o := .tup (mvV mv)) nrw
      have R9 := R8.same S9
      have D9 := D8.same S9
      have B9 := ((B5.trans B6).trans B7).trans (B8.trans (but_same S9))
      have hrw : upd H8 rw (.tup (mvV mv)) rw = some (.tup (mvV mv)) := upd_same
      generalize upd H8 rw (.tup (mvV mv)) = H9 at R9 D9 B9 hrw ⊢
      clear S9 R8
      refine ⟨_, rfl, R, rfl, ⟨_, SqL.of R9.ls⟩, fun D nD => ?_⟩
      refine lc_list (K := K) (a := R) (xs := qs.map fun p => V.ref p.1) (fun i' H' => ∃ ones : List Int, (ones = [] ↔ ∀ q ∈ qs.take i', ¬ Clash q.2 mv) ∧ ones.length ≤ i' ∧ H' = upd H9 D (.lst (ones.map V.int)))
        ⟨[], by simp, Nat.le_refl _, rfl⟩ (fun i' H' _ ⟨_, _, _, e⟩ => by rw [e]; exact SqL.of (same_up nD _ _ R9.ls)) ?_ ?_
      · rintro i' y H' hi' ⟨ones, on, ol, rfl⟩
        rw [List.getElem?_map] at hi'
        obtain ⟨p, hp, rfl⟩ := Option.map_eq_some_iff.mp hi'
        have il : i' < qs.length := (List.getElem?_eq_some_iff.mp hp).1
        have tk : qs.take (i' + 1) = qs.take i' ++ [p] := by rw [List.take_add_one, hp] <;> rfl
        have SD := same_up (o := .lst (ones.map V.int)) nD
        refine ⟨p.1, _, rfl, SqT.of (SD _ _ (R9.it p (List.mem_of_getElem? hp))), rfl, _, _, rfl, _, _, rfl, _, _, rfl, rfl, ⟨rfl, ?_⟩⟩
        have hrw' := SD _ _ hrw
        have fin : ∀ bb : Bool, bb = decide (Clash p.2 mv) → (if bb = true then (∃ acc, upd H9 D (.lst (ones.map V.int)) D = some (.lst acc) ∧ acc.length < sizeLine ∧ ∃ ones' : List Int, (ones' = [] ↔ ∀ q ∈ qs.take (i' + 1), ¬ Clash q.2 mv) ∧ ones'.length ≤ i' + 1 ∧ upd (upd H9 D (.lst (ones.map V.int))) D (.lst (acc ++ [.int 1])) = upd H9 D (.lst (ones'.map V.int)))
            else ∃ ones' : List Int, (ones' = [] ↔ ∀ q ∈ qs.take (i' + 1), ¬ Clash q.2 mv) ∧ ones'.length ≤ i' + 1 ∧ upd H9 D (.lst (ones.map V.int)) = upd H9 D (.lst (ones'.map V.int))) := by
          intro bb eb
          by_cases cl : Clash p.2 mv
          · rw [eb, decide_eq_true cl]
            refine iteT ⟨_, upd_same, by rw [List.length_map, sizeLine_eq]; omega, ones ++ [1], ⟨fun e => by simp at e, fun h => absurd cl (h p (by rw [tk]; exact List.mem_append_right _ List.mem_cons_self))⟩, by rw [List.length_append]; exact Nat.succ_le_succ ol, by rw [upd_upd, List.map_append] <;> rfl⟩
          · rw [eb, decide_eq_false cl]
            refine iteF ⟨ones, ?_, Nat.le_succ_of_le ol, rfl⟩
            rw [on, tk]
            refine ⟨fun h q hq => (List.mem_append.mp hq).elim (h q) fun y => by rw [List.mem_singleton.mp y]; exact cl, fun h q hq => h q (List.mem_append_left _ hq)⟩
        refine ⟨_, rfl, _, rfl, rw, _, 1, .str (sg mv.c), rfl, rfl, SqT.of hrw', rfl, rfl, _, rfl, ?_⟩
        rw [sg_dec]
        by_cases e1 : p.2.c = mv.c
        · rw [decide_eq_true e1]
          refine iteT ?_
          refine ⟨_, rfl, _, rfl, rw, _, 0, .int (mv.s : Int), rfl, rfl, SqT.of hrw', rfl, rfl, _, rfl, ?_⟩
          rw [int_dec]
          by_cases e2 : p.2.s = mv.s
          · rw [decide_eq_true e2]
            refine iteT ?_
            exact fin true (decide_eq_true ⟨e1.symm, .inl e2.symm⟩).symm
          · rw [decide_eq_false e2]
            refine iteF ?_
            refine ⟨_, rfl, _, rfl, rw, _, 2, .int (mv.t : Int), rfl, rfl, SqT.of hrw', rfl, rfl, _, rfl, ?_⟩
            rw [int_dec]
            refine fin _ ?_
            rw [Bool.eq_iff_iff, decide_eq_true_eq, decide_eq_true_eq]
            exact ⟨fun h => ⟨e1.symm, .inr h.symm⟩, fun h => h.2.elim (fun y => absurd y.symm e2) Eq.symm⟩
        · rw [decide_eq_false e1]
          refine iteF ?_
          exact fin false (decide_eq_false fun h => e1 h.1.symm).symm
      · rintro H' ⟨ones, on, ol, rfl⟩
        rw [List.length_map, List.take_length] at on
        have SD := same_up (o := .lst (ones.map V.int)) nD
        refine ⟨Nat.zero_le _, fun p0 np0 => ?_⟩
        have S0 := same_up (o := .lst []) np0
        have hD0 := S0 _ _ (upd_same (H := H9) (a := D) (o := .lst (ones.map V.int)))
        refine ⟨.list (ones.map PyData.int), .list [], .lst (SqL.of hD0) (dp_ints ones), .lst (SqL.of upd_same) .nil, shaped_ints ones, by decide, _, rfl, ?_⟩
        rw [eqv_nil]
        have S10 := SD.trans S0
        have R10 := R9.same S10
        have D10 := D9.same S10
        have B10 := B9.trans (but_same S10)
        have hrw10 := S10 _ _ hrw
        generalize upd (upd H9 D (.lst (ones.map V.int))) p0 (.lst []) = H10 at R10 D10 B10 hrw10 ⊢
        by_cases e0 : ones = []
        · rw [decide_eq_true e0]
          refine iteT ?_
          refine ⟨_, rfl, .inl ⟨rfl, _, SqL.of R10.ls⟩, _, rfl, R, _, _, rfl, rfl, R10.ls, by rw [List.length_map, sizeLine_eq]; omega, ?_⟩
          refine ⟨m2 + 1 + 1 + 1, _, _, qs ++ [(rw, mv)], rfl, deck_upd D10 ndR ngR, by omega, fun b o e n1 n2 => ?_, ⟨?_, fun p hp => ?_⟩, fun p hp => ?_, ?_, ?_⟩
          · rw [upd_ne (ne_of_none e nR0)]
            exact B10 b o e n1 n2
          · rw [upd_same, List.map_append] <;> rfl
          · have y : H10 p.1 = some (.tup (mvV p.2)) := (List.mem_append.mp hp).elim (R10.it p) fun y => by rw [List.mem_singleton.mp y]; exact hrw10
            rw [upd_ne (ne_of y R10.ls (fun x => by cases x))]
            exact y
          · exact (List.mem_append.mp hp).elim (ok5 p) fun y => by rw [List.mem_singleton.mp y]; exact okm
          · rw [List.map_append, List.pairwise_append]
            refine ⟨nc5, List.pairwise_singleton _ _, fun a ha b hb => ?_⟩
            obtain ⟨q, hq, rfl⟩ := List.mem_map.mp ha
            rw [List.mem_singleton.mp hb]
            exact on.mp e0 q hq
          · rw [List.length_append]
            exact Nat.succ_le_succ len5
        · rw [decide_eq_false e0]
          refine iteF ?_
          exact ⟨m2 + 1 + 1 + 1, _, _, qs, rfl, D10, by omega, B10, R10, ok5, nc5, Nat.le_succ_of_le len5⟩
    · rintro σ H5 ⟨m2, x6, x7, qs, rfl, D5, hm2, B5, R5, ok5, nc5, len5⟩
      have len20 : qs.length ≤ 20 := by omega
      have lenM : qs.length ≤ many := by omega
      have mB2 : m2 ≤ m + 66 := by omega
      dsimp only
      refine go_seq ?_
      refine ⟨_, rfl, _, rfl, d, g, _, m2, rfl, D5, by omega, by omega, by omega, fun b0 H6 b00 b01 D6 B6 => ?_⟩
      refine ⟨_, rfl, _, rfl, d, g, _, m2 + 1, rfl, D6, by omega, by omega, by omega, fun g0 H7 g00 g01 D7 B7 => ⟨_, _, rfl, ?_⟩⟩
      obtain ⟨b, eb⟩ : ∃ b : Nat, (b : Int) = b0 := ⟨b0.toNat, by omega⟩
      obtain ⟨g1, eg⟩ : ∃ g1 : Nat, (g1 : Int) = g0 := ⟨g0.toNat, by omega⟩
      rw [← eb, ← eg]
      have bW : b < W := by omega
      have gW : g1 < W := by omega
      have R7 := (R5.but D5 B6 ngR.symm).but D6 B7 ngR.symm
      have B07 := (B5.trans B6).trans B7
      clear D5 D6 B6 B7 B5 R5
      -- the states ahead
      refine ⟨_, rfl, _, rfl, R, rfl, ⟨_, SqL.of R7.ls⟩, fun DA nDA => ?_⟩
      refine lc_list (K := K) (a := R) (xs := qs.map fun p => V.ref p.1) (fun i' H' => ∃ ps : List (Addr × Nat × Nat), ps.map (·.2) = (qs.take i').map (fun p => (p.2.s, p.2.t)) ∧ ps.length ≤ i' ∧ Same H7 H' ∧ PairsM H' DA ps)
        ⟨[], rfl, Nat.le_refl _, same_up nDA, ⟨upd_same, fun p hp => nomatch hp⟩⟩ (fun i' H' _ ⟨_, _, _, S, _⟩ => SqL.of (S _ _ R7.ls)) ?_ ?_
      · rintro i' y H' hi' ⟨ps, ep, pl, S, PS⟩
        rw [List.getElem?_map] at hi'
        obtain ⟨p, hp, rfl⟩ := Option.map_eq_some_iff.mp hi'
        have il : i' < qs.length := (List.getElem?_eq_some_iff.mp hp).1
        refine ⟨p.1, _, rfl, SqT.of (S _ _ (R7.it p (List.mem_of_getElem? hp))), rfl, _, _, rfl, _, _, rfl, _, _, rfl, rfl, ⟨rfl, ?_⟩⟩
        refine ⟨_, rfl, _, rfl, by show 2 ≤ sizeLine; decide, fun t nt => ?_⟩
        have nDt : DA ≠ t := ne_of_none PS.ls nt
        obtain ⟨A1, A2⟩ := PS.add (a := p.2.s) (b := p.2.t) nt nDA S
        refine ⟨_, by rw [upd_ne nDt]; exact PS.ls, by rw [List.length_map, sizeLine_eq]; omega, ps ++ [(t, p.2.s, p.2.t)], ?_, by rw [List.length_append]; exact Nat.succ_le_succ pl, A1, A2⟩
        rw [List.map_append, ep, List.take_add_one, hp, List.map_append] <;> rfl
      rintro H8 ⟨psA, epA, plA, S8, PA⟩
      rw [List.length_map, List.take_length] at epA
      rw [List.length_map] at plA
      have bdA : ∀ p ∈ psA, p.2.1 < W ∧ p.2.2 < W := fun p hp => by
        have : p.2 ∈ psA.map (·.2) := List.mem_map.mpr ⟨p, hp, rfl⟩
        rw [epA] at this
        obtain ⟨q, hq, e⟩ := List.mem_map.mp this
        rw [← e]
        exact ⟨(ok5 q hq).1, (ok5 q hq).2.1⟩
      refine ⟨b, W, DA, psA, rfl, SqL.of PA.ls, fun p hp => SqT.of (PA.it p hp), bdA, bW, by omega, by omega, fun A0 A H9 S9 nA0 hA LA ltA => ?_⟩
      rw [epA] at LA
      have R9 := (R7.same S8).same S9
      have D9 := (D7.same S8).same S9
      have B9 := B07.trans (but_same (S8.trans S9))
      clear R7 D7 B07 S8 S9 PA
      -- the goal
      refine ⟨_, rfl, _, rfl, rin hA ⟨_, rfl, if_int rfl rfl ?_⟩⟩
      obtain ⟨gl, egl⟩ : ∃ gl : Nat, gl = if g1 ∈ A then g1 else b := ⟨_, rfl⟩
      rw [← egl]
      have glA : gl ∈ A := by
        rw [egl]
        split
        · assumption
        · exact LA.st
      have glW : gl < W := ltA _ glA
      -- the states from which the goal is reached
      refine ⟨_, rfl, _, rfl, R, rfl, ⟨_, SqL.of R9.ls⟩, fun DB nDB => ?_⟩
      refine lc_list (K := K) (a := R) (xs := qs.map fun p => V.ref p.1) (fun i' H' => ∃ ps : List (Addr × Nat × Nat), ps.map (·.2) = (qs.take i').map (fun p => (p.2.t, p.2.s)) ∧ ps.length ≤ i' ∧ Same H9 H' ∧ PairsM H' DB ps)
        ⟨[], rfl, Nat.le_refl _, same_up nDB, ⟨upd_same, fun p hp => nomatch hp⟩⟩ (fun i' H' _ ⟨_, _, _, S, _⟩ => SqL.of (S _ _ R9.ls)) ?_ ?_
      · rintro i' y H' hi' ⟨ps, ep, pl, S, PS⟩
        rw [List.getElem?_map] at hi'
        obtain ⟨p, hp, rfl⟩ := Option.map_eq_some_iff.mp hi'
        have il : i' < qs.length := (List.getElem?_eq_some_iff.mp hp).1
        refine ⟨p.1, _, rfl, SqT.of (S _ _ (R9.it p (List.mem_of_getElem? hp))), rfl, _, _, rfl, _, _, rfl, _, _, rfl, rfl, ⟨rfl, ?_⟩⟩
        refine ⟨_, rfl, _, rfl, by show 2 ≤ sizeLine; decide, fun t nt => ?_⟩
        have nDt : DB ≠ t := ne_of_none PS.ls nt
        obtain ⟨A1, A2⟩ := PS.add (a := p.2.t) (b := p.2.s) nt nDB S
        refine ⟨_, by rw [upd_ne nDt]; exact PS.ls, by rw [List.length_map, sizeLine_eq]; omega, ps ++ [(t, p.2.t, p.2.s)], ?_, by rw [List.length_append]; exact Nat.succ_le_succ pl, A1, A2⟩
        rw [List.map_append, ep, List.take_add_one, hp, List.map_append] <;> rfl
      rintro H10 ⟨psB, epB, plB, S10, PB⟩
      rw [List.length_map, List.take_length] at epB
      rw [List.length_map] at plB
      have bdB : ∀ p ∈ psB, p.2.1 < W ∧ p.2.2 < W := fun p hp => by
        have : p.2 ∈ psB.map (·.2) := List.mem_map.mpr ⟨p, hp, rfl⟩
        rw [epB] at this
        obtain ⟨q, hq, e⟩ := List.mem_map.mp this
        rw [← e]
        exact ⟨(ok5 q hq).2.1, (ok5 q hq).1⟩
      refine ⟨gl, W, DB, psB, rfl, SqL.of PB.ls, fun p hp => SqT.of (PB.it p hp), bdB, glW, by omega, by omega, fun B0 Bs H11 S11 nB0 hB LB ltB => ?_⟩
      rw [epB] at LB
      have hA11 := S11 _ _ (S10 _ _ hA)
      have R11 := (R9.same S10).same S11
      have D11 := (D9.same S10).same S11
      have B11 := B9.trans (but_same (S10.trans S11))
      clear R9 D9 B9 S10 S11 PB hA
      -- the states kept
      refine go_name ?_
      dsimp only
      refine go_seq ?_
      refine ⟨_, rfl, (W : Int), rfl, by omega, by omega, fun DK nDK => ?_⟩
      rw [Int.toNat_natCast]
      have nAK : A0 ≠ DK := ne_of_none hA11 nDK
      have nBK : B0 ≠ DK := ne_of_none hB nDK
      refine lc_range (lo := 0) (n := W) (fun i' H' => H' = upd H11 DK (.lst (nI ((List.range i').filter fun k => decide (k ∈ A) && decide (k ∈ Bs))))) rfl ?_ ?_
      · rintro i' H' hi' rfl
        have e0 : (0 : Int) + (i' : Nat) = ((i' : Nat) : Int) := by omega
        rw [e0]
        have SK := same_up (o := .lst (nI ((List.range i').filter fun k => decide (k ∈ A) && decide (k ∈ Bs)))) nDK
        have lk : ((List.range i').filter fun k => decide (k ∈ A) && decide (k ∈ Bs)).length ≤ i' := Nat.le_trans (List.length_filter_le _ _) (Nat.le_of_eq List.length_range)
        refine ⟨rfl, ?_⟩
        refine ⟨_, rfl, _, rfl, rin (SK _ _ hA11) ⟨_, rfl, ?_⟩⟩
        by_cases a1 : i' ∈ A
        · rw [decide_eq_true a1]
          refine iteT ?_
          refine ⟨_, rfl, _, rfl, rin (SK _ _ hB) ⟨_, rfl, ?_⟩⟩
          by_cases a2 : i' ∈ Bs
          · rw [decide_eq_true a2]
            refine iteT ?_
            refine ⟨_, rfl, _, upd_same, by rw [nI_len, sizeLine_eq]; omega, ?_⟩
            rw [upd_upd, filter_range, decide_eq_true a1, decide_eq_true a2, Bool.and_self, if_pos rfl, ← nI_app]
            rfl
          · rw [decide_eq_false a2]
            refine iteF ?_
            rw [filter_range, decide_eq_false a2, Bool.and_false, if_neg Bool.false_ne_true, List.append_nil]
        · rw [decide_eq_false a1]
          refine iteF ?_
          refine iteF ?_
          rw [filter_range, decide_eq_false a1, Bool.false_and, if_neg Bool.false_ne_true, List.append_nil]
      rintro H' rfl
      obtain ⟨kept, ekept⟩ : ∃ kept, kept = (List.range W).filter fun k => decide (k ∈ A) && decide (k ∈ Bs) := ⟨_, rfl⟩
      rw [← ekept]
      have WW : Drawn W b gl (qs.map (·.2)) A Bs kept := ⟨by rw [List.map_map]; exact LA, by rw [List.map_map]; exact LB, glA, ltA, by omega, fun m hm => by
        obtain ⟨p, hp, rfl⟩ := List.mem_map.mp hm
        exact ok5 p hp, nc5, ekept⟩
      have lenK : kept.length ≤ W := by rw [ekept]; exact Nat.le_trans (List.length_filter_le _ _) (Nat.le_of_eq List.length_range)
      have SK := same_up (o := .lst (nI kept)) nDK
      have hK : upd H11 DK (.lst (nI kept)) DK = some (.lst (nI kept)) := upd_same
      have R12 := R11.same SK
      have D12 := D11.same SK
      have B12 := B11.trans (but_same SK)
      generalize upd H11 DK (.lst (nI kept)) = H12 at hK R12 D12 B12 ⊢
      clear SK R11 D11 B11 hA11 hB
      -- the ways
      refine go_name ?_
      dsimp only
      refine go_seq ?_
      refine ⟨_, rfl, R, rfl, ⟨_, SqL.of R12.ls⟩, fun DW nDW => ?_⟩
      refine lc_list (K := K) (a := R) (xs := qs.map fun p => V.ref p.1) (fun i' H' => ∃ ws : List (Addr × Mv), ws.map (·.2) = ways kept ((qs.take i').map (·.2)) ∧ ws.length ≤ i' ∧ Same H12 H' ∧ RowsM H' DW ws)
        ⟨[], rfl, Nat.le_refl _, same_up nDW, ⟨upd_same, fun p hp => nomatch hp⟩⟩ (fun i' H' _ ⟨_, _, _, S, _⟩ => SqL.of (S _ _ R12.ls)) ?_ ?_
      · rintro i' y H' hi' ⟨ws, ew, wl, S, RW⟩
        rw [List.getElem?_map] at hi'
        obtain ⟨p, hp, rfl⟩ := Option.map_eq_some_iff.mp hi'
        have il : i' < qs.length := (List.getElem?_eq_some_iff.mp hp).1
        refine ⟨p.1, _, rfl, SqT.of (S _ _ (R12.it p (List.mem_of_getElem? hp))), rfl, _, _, rfl, _, _, rfl, _, _, rfl, rfl, ⟨rfl, ?_⟩⟩
        have hK' := S _ _ hK
        refine ⟨_, rfl, _, rfl, rin hK' ⟨_, rfl, ?_⟩⟩
        have stay : (decide (p.2.s ∈ kept) && decide (p.2.t ∈ kept)) = false → ∃ ws' : List (Addr × Mv), ws'.map (·.2) = ways kept ((qs.take (i' + 1)).map (·.2)) ∧ ws'.length ≤ i' + 1 ∧ Same H12 H' ∧ RowsM H' DW ws' := fun e => ⟨ws, by rw [ew, ways_take hp, e, if_neg Bool.false_ne_true, List.append_nil], Nat.le_succ_of_le wl, S, RW⟩
        by_cases a1 : p.2.s ∈ kept
        · rw [decide_eq_true a1]
          refine iteT ?_
          refine ⟨_, rfl, _, rfl, rin hK' ⟨_, rfl, ?_⟩⟩
          by_cases a2 : p.2.t ∈ kept
          · rw [decide_eq_true a2]
            refine iteT ?_
            obtain ⟨i1, i2, i3⟩ := idx_nI a1
            obtain ⟨j1, j2, j3⟩ := idx_nI a2
            refine ⟨_, rfl, .inl ⟨rfl, _, SqL.of hK'⟩, _, rfl, DK, _, _, _, _, rfl, rfl, SqL.of hK', rfl, flat_nI _, i1, i2, i3, ?_⟩
            refine ⟨_, rfl, _, rfl, .inl ⟨rfl, _, SqL.of hK'⟩, _, rfl, DK, _, _, _, _, rfl, rfl, SqL.of hK', rfl, flat_nI _, j1, j2, j3, ?_⟩
            refine ⟨by show 3 ≤ sizeLine; decide, fun t nt => ?_⟩
            have nDt : DW ≠ t := ne_of_none RW.ls nt
            obtain ⟨A1, A2⟩ := RW.add (m := wayM kept p.2) nt nDW S
            refine ⟨_, by rw [upd_ne nDt]; exact RW.ls, by rw [List.length_map, sizeLine_eq]; omega, ws ++ [(t, wayM kept p.2)], ?_, by rw [List.length_append]; exact Nat.succ_le_succ wl, A1, A2⟩
            rw [List.map_append, ew, ways_take hp, decide_eq_true a1, decide_eq_true a2, Bool.and_self, if_pos rfl] <;> rfl
          · rw [decide_eq_false a2]
            refine iteF ?_
            exact stay (by rw [decide_eq_false a2, Bool.and_false])
        · rw [decide_eq_false a1]
          refine iteF ?_
          refine iteF ?_
          exact stay (by rw [decide_eq_false a1, Bool.false_and])
      rintro H13 ⟨ws, ew, wl, S13, RW⟩
      rw [List.length_map, List.take_length] at ew
      rw [List.length_map] at wl
      have hK13 := S13 _ _ hK
      have D13 := D12.same S13
      have B13 := B12.trans (but_same S13)
      clear R12 D12 B12 S13 hK
      have few : ws.length ≤ 20 := by omega
      refine fun pd npd => ⟨_, rfl, _, kept.length, rfl, .inl ⟨_, SqL.of (same_up npd _ _ hK13), (nI_len kept).symm⟩, ?_⟩
      have Sp := same_up (o := .dK []) npd
      have hKp := Sp _ _ hK13
      have hpd0 : upd H13 pd (.dK []) pd = some (.dK []) := upd_same
      have RWp : RowsM (upd H13 pd (.dK [])) DW ws := RW.same Sp
      have Dp0 := D13.same Sp
      have Bp := B13.trans (but_same Sp)
      obtain ⟨⟨kd, hd13⟩, xg, hg13⟩ := D13.two
      have ndp : d ≠ pd := ne_of_none hd13 npd
      have ngp : g ≠ pd := ne_of_none hg13 npd
      have npH : H pd = none := by
        cases e : H pd with
        | none => rfl
        | some o => rw [B13 pd o e ndp.symm ngp.symm] at npd; cases npd
      generalize upd H13 pd (.dK []) = Hp0 at hKp hpd0 RWp Dp0 Bp ⊢
      obtain ⟨i1, i2, i3⟩ := idx_nI WW.bk
      obtain ⟨j1, j2, j3⟩ := idx_nI WW.gk
      refine ⟨_, rfl, .inl ⟨rfl, _, SqL.of hKp⟩, _, rfl, DK, _, _, _, _, rfl, rfl, SqL.of hKp, rfl, flat_nI _, i1, i2, i3, ?_⟩
      refine ⟨_, rfl, .inl ⟨rfl, _, SqL.of hKp⟩, _, rfl, DK, _, _, _, _, rfl, rfl, SqL.of hKp, rfl, flat_nI _, j1, j2, j3, ?_⟩
      refine ⟨_, rfl, DW, ws.map Vk.kp, rfl, by rw [List.map_map]; exact SqL.of RWp.ls, fun p hp => ?_, kp_alike ws, fun p hp => ?_, by rw [List.length_map]; omega, fun ys D2 pm srt nD2 => ?_⟩
      · obtain ⟨p0, h0, rfl⟩ := List.mem_map.mp hp
        exact SqT.of (RWp.it p0 h0)
      · obtain ⟨p0, _, rfl⟩ := List.mem_map.mp hp
        exact fun z => nomatch z
      obtain ⟨ms, pms, ems⟩ := perm_of_map pm ws rfl
      have er : (ys.map fun q => V.ref q.1) = ms.map fun p => V.ref p.1 := by rw [← ems, List.map_map] <;> rfl
      rw [er]
      rw [← ems] at srt
      have S2 := same_up (o := .lst (ms.map fun p => V.ref p.1)) nD2
      refine ⟨D2, _, rfl, .inl ⟨SqL.of upd_same, fun l nl => ?_⟩⟩
      have S3 := S2.trans (same_up (o := .tup (ms.map fun p => V.ref p.1)) nl)
      have hl : upd (upd Hp0 D2 (.lst (ms.map fun p => V.ref p.1))) l (.tup (ms.map fun p => V.ref p.1)) l = some (.tup (ms.map fun p => V.ref p.1)) := upd_same
      have hpd1 := S3 _ _ hpd0
      have RW1 := RWp.same S3
      have D1' := Dp0.same S3
      have B1' := Bp.trans (but_same S3)
      generalize upd (upd Hp0 D2 (.lst (ms.map fun p => V.ref p.1))) l (.tup (ms.map fun p => V.ref p.1)) = HL at hl hpd1 RW1 D1' B1' ⊢
      refine ⟨hpd1, planK kept.length (kept.idxOf b) (kept.idxOf gl) l, rfl, by show 4 ≤ 15; decide, ?_⟩
      have em : mergeK [] (planK kept.length (kept.idxOf b) (kept.idxOf gl) l) = planK kept.length (kept.idxOf b) (kept.idxOf gl) l := by rfl
      rw [em]
      have OK := WW.okM ltB (by rw [List.length_map]; omega) (ms := ms) (by rw [← ew]; exact pms.map _) srt
      refine k pd l kept.length (kept.idxOf b) (kept.idxOf gl) ms _ _ (fun c o e n1 n2 => ?_) npH upd_same ⟨?_, fun p hp => ?_⟩ OK (by omega) (by rw [pms.length_eq]; omega) (deck_upd D1' ndp ngp) (by omega)
      · rw [upd_ne (ne_of_none e npH)]
        exact B1' c o e n1 n2
      · refine SqT.of ?_
        rw [upd_ne (ne_of hl hpd1 (fun z => by cases z))]
        exact hl
      · have y := RW1.it p (pms.mem_iff.mp hp)
        refine SqT.of ?_
        rw [upd_ne (ne_of y hpd1 (fun z => by cases z))]
        exact y
end
end Vk
set_option Elab.async false
set_option linter.all false
set_option maxRecDepth 100000
set_option maxHeartbeats 4000000
namespace Vk
open PySem PySem.Spec PyProof.Rows L2 Vt
abbrev sLPlain : Stmt := top8 64
abbrev sLParts : Stmt := top8 65
instance : DecidableEq Mv := fun a b => decidable_of_iff (a.s = b.s ∧ a.c = b.c ∧ a.t = b.t) ⟨fun ⟨h1, h2, h3⟩ => by
  cases a
  cases b
  simp only at h1 h2 h3
  rw [h1, h2, h3], fun h => by rw [h]; exact ⟨rfl, rfl, rfl⟩⟩
theorem mv_eq {a b : Mv} : a = b ↔ a.s = b.s ∧ a.c = b.c ∧ a.t = b.t := by
  refine ⟨fun h => by rw [h]; exact ⟨rfl, rfl, rfl⟩, fun ⟨h1, h2, h3⟩ => ?_⟩
  cases a
  cases b
  simp only at h1 h2 h3
  rw [h1, h2, h3]
theorem eqv_mv (a b : Mv) : PyData.eqv (mvD a) (mvD b) = decide (a = b) := by
  show (((a.s : Int) == (b.s : Int)) && ((sg a.c == sg b.c) && (((a.t : Int) == (b.t : Int)) && true))) = decide (a = b)
  rw [Bool.eq_iff_iff, decide_eq_true_eq, mv_eq, Bool.and_eq_true, Bool.and_eq_true, Bool.and_eq_true, beq_iff_eq, beq_iff_eq, beq_iff_eq]
  refine ⟨fun ⟨h1, h2, h3, _⟩ => ⟨by omega, ?_, by omega⟩, fun ⟨h1, h2, h3⟩ => ⟨by rw [h1], by rw [h2], by rw [h3], rfl⟩⟩
  exact (List.cons.inj (congrArg (fun y : Str => y.cps.toList) h2)).1
theorem eqv_mvs : ∀ l m : List Mv, PyData.eqvAll (l.map mvD) (m.map mvD) = decide (l = m)
  | [], [] => rfl
  | [], b :: m => by rw [decide_eq_false (fun z => nomatch z)] <;> rfl
  | a :: l, [] => by rw [decide_eq_false (fun z => nomatch z)] <;> rfl
  | a :: l, b :: m => by
    rw [List.map_cons, List.map_cons, PyData.eqvAll, eqv_mv, eqv_mvs l m, Bool.eq_iff_iff, Bool.and_eq_true, decide_eq_true_eq, decide_eq_true_eq, decide_eq_true_eq, List.cons.injEq]
section
variable {P : Program} {w : World} {K : PySem.W.Frag} {mg : Str → Option Value} {base : Heap}
/-- two machines: equal exactly if their parts are -/
def spEqA (K : PySem.W.Frag) (C : Addr) : Sp := fun vs H Q _ => ∃ (a b : Addr) (n1 st1 la1 n2 st2 la2 : Nat) (ms1 ms2 : List (Addr × Mv)), vs = [.ref a, .ref b] ∧ MachAt K C H a n1 st1 la1 ms1 ∧ MachAt K C H b n2 st2 la2 ms2 ∧ Q (.bl (decide (n1 = n2 ∧ st1 = st2 ∧ la1 = la2 ∧ ms1.map (·.2) = ms2.map (·.2)))) H
theorem scEqA : FnScope ["self", "other"] ["self", "other"] (defScope sEq) := ⟨rfl, rfl, rfl, by decide +kernel, rfl, by decide +kernel, by decide +kernel⟩
theorem ok_eqA {f C : Addr} {fd : FuncData} (F : Fun K "__eq__" "Machine.__eq__" sEq f fd) (T : Txt8 K mg) (M : MCls K C) (IC : C8.InsC K C) (gM : mg "Machine" = some (.ref C)) : FnOk P w K mg base CX0 1 f fd ["self", "other"] (spEqA K C) := by
  refine F.ok scEqA (fun vs H Q E h => ?_) (fun cdv A outer s H vs Q E hr h => ?_)
  · obtain ⟨a, b, n1, st1, la1, n2, st2, la2, ms1, ms2, rfl, _⟩ := h
    rfl
  · obtain ⟨a, b, n1, st1, la1, n2, st2, la2, ms1, ms2, rfl, hA, hB, k⟩ := h
    obtain ⟨d1, l1, E1, F1, z1, ha, hM1, _⟩ := hA.ob
    obtain ⟨d2, l2, E2, F2, z2, hb, hM2, _⟩ := hB.ob
    have no : ¬ (n1 = n2 ∧ st1 = st2 ∧ la1 = la2 ∧ ms1.map (·.2) = ms2.map (·.2)) → Q (.bl false) H := fun z => by
      rw [decide_eq_false z] at k
      exact k
    refine ⟨_, (pss_one (ps_ret (pe_and (pe_callB (C8.call_isC IC) (by rfl) T.isi (by decide +kernel) (pa_cons (pv 1) (pa_cons (pe_glob (v := .ref C) (by rfl) gM rfl) pa_nil))) (pe_and (pe_cmpR op_eq (pe_fld (pv 0) rfl) (pe_fld (pv 1) rfl) (nomark _)) (pe_and (pe_cmpR op_eq (pe_fld (pv 0) rfl) (pe_fld (pv 1) rfl) (nomark _)) (pe_and (pe_cmpR op_eq (pe_fld (pv 0) rfl) (pe_fld (pv 1) rfl) (nomark _)) (pe_one (pe_cmpR (op_eqD hr.units) (pe_fld (pv 0) rfl) (pe_fld (pv 1) rfl) (nomark _))))))))), ?_⟩
    refine ⟨_, rfl, b, d2, _, rfl, hb, _, rfl, ?_⟩
    refine iteT ?_
    refine ⟨_, rfl, a, C, d1, _, _, rfl, ha, M.cl, M.a1, lk1 .., _, rfl, b, C, d2, _, _, rfl, hb, M.cl, M.a1, lk1 .., rfl, _, rfl, ?_⟩
    rw [int_dec]
    by_cases e1 : n1 = n2
    · rw [decide_eq_true e1]
      refine iteT ?_
      refine ⟨_, rfl, a, C, d1, _, _, rfl, ha, M.cl, M.a2, lk2 .., _, rfl, b, C, d2, _, _, rfl, hb, M.cl, M.a2, lk2 .., rfl, _, rfl, ?_⟩
      rw [int_dec]
      by_cases e2 : st1 = st2
      · rw [decide_eq_true e2]
        refine iteT ?_
        refine ⟨_, rfl, a, C, d1, _, _, rfl, ha, M.cl, M.a3, lk3 .., _, rfl, b, C, d2, _, _, rfl, hb, M.cl, M.a3, lk3 .., rfl, _, rfl, ?_⟩
        rw [int_dec]
        by_cases e3 : la1 = la2
        · rw [decide_eq_true e3]
          refine iteT ?_
          refine ⟨_, rfl, a, C, d1, _, _, rfl, ha, M.cl, M.a4, lk4 .., _, rfl, b, C, d2, _, _, rfl, hb, M.cl, M.a4, lk4 .., ?_⟩
          have hc1 : ∀ p ∈ ms1, p.2.c ≤ 122 := fun p hp => (hA.ok.ok p hp).2.2.2
          have hc2 : ∀ p ∈ ms2, p.2.c ≤ 122 := fun p hp => (hB.ok.ok p hp).2.2.2
          refine ⟨.tuple (ms1.map fun (p : Addr × Mv) => mvD p.2), .tuple (ms2.map fun (p : Addr × Mv) => mvD p.2), Dp.tup (K := K) hM1.tp (dp_mvs hM1.it), Dp.tup (K := K) hM2.tp (dp_mvs hM2.it), shaped_mvsT ms1 hc1, shaped_mvsT ms2 hc2, ?_⟩
          have e4 : PyData.eqv (.tuple (ms1.map fun (p : Addr × Mv) => mvD p.2)) (.tuple (ms2.map fun (p : Addr × Mv) => mvD p.2)) = decide (n1 = n2 ∧ st1 = st2 ∧ la1 = la2 ∧ ms1.map (·.2) = ms2.map (·.2)) := by
            have h := eqv_mvs (ms1.map (·.2)) (ms2.map (·.2))
            rw [List.map_map, List.map_map] at h
            show PyData.eqvAll (ms1.map fun (p : Addr × Mv) => mvD p.2) (ms2.map fun (p : Addr × Mv) => mvD p.2) = _
            refine Eq.trans h ?_
            rw [Bool.eq_iff_iff, decide_eq_true_eq, decide_eq_true_eq]
            exact ⟨fun z => ⟨e1, e2, e3, z⟩, fun z => z.2.2.2⟩
          rw [e4]
          exact k
        · rw [decide_eq_false e3]
          refine iteF ?_
          exact no fun z => e3 z.2.2.1
      · rw [decide_eq_false e2]
        refine iteF ?_
        exact no fun z => e2 z.2.1
    · rw [decide_eq_false e1]
      refine iteF ?_
      exact no fun z => e1 z.1
/-- the machine of a plan -/
theorem v_size (n st la : Nat) (l : Addr) : valV (planK n st la l) (Sum.inr "size" : Key) = some (.int (n : Int)) := by rfl
theorem v_first (n st la : Nat) (l : Addr) : valV (planK n st la l) (Sum.inr "first" : Key) = some (.int (st : Int)) := by rfl
theorem v_last (n st la : Nat) (l : Addr) : valV (planK n st la l) (Sum.inr "last" : Key) = some (.int (la : Int)) := by rfl
theorem v_moves (n st la : Nat) (l : Addr) : valV (planK n st la l) (Sum.inr "moves" : Key) = some (.ref l) := by rfl
theorem plan_get {H : Hp} {q : Addr} {kvs : List (Key × V)} {k : Str} {v : V} (h : H q = some (.dK kvs)) (e : valV kvs (Sum.inr k : Key) = some v) : DGet H q (.str k) (some v) := by
  have := DGet.k (k := Sum.inr k) h
  rw [e] at this
  exact this
def spPlain (K : PySem.W.Frag) : Sp := fun vs H Q _ => ∃ (q l : Addr) (n st la : Nat), vs = [.ref q] ∧ H q = some (.dK (planK n st la l)) ∧ ∀ p, H p = none → Q (.ref p) (upd H p (.tup [.int (n : Int), .int (st : Int), .int (la : Int), .ref l]))
theorem scPl : FnScope ["_law_w"] ["_law_w"] (defScope sLPlain) := ⟨rfl, rfl, rfl, by decide +kernel, rfl, by decide +kernel, by decide +kernel⟩
theorem ok_plain {f : Addr} {fd : FuncData} (F : Fun K "_law_plain" "_law_plain" sLPlain f fd) : FnOk P w K mg base CX0 1 f fd ["_law_w"] (spPlain K) := by
  refine F.ok scPl (fun vs H Q E h => ?_) (fun cdv A outer s H vs Q E hr h => ?_)
  · obtain ⟨q, l, n, st, la, rfl, _⟩ := h
    rfl
  · obtain ⟨q, l, n, st, la, rfl, hq, k⟩ := h
    have hu := hu_of hr
    refine ⟨_, (pss_one (ps_ret (pe_tup (pa_cons (pe_dget hu (pv 0) pe_str (fun _ _ => rfl)) (pa_cons (pe_dget hu (pv 0) pe_str (fun _ _ => rfl)) (pa_cons (pe_dget hu (pv 0) pe_str (fun _ _ => rfl)) (pa_cons (pe_dget hu (pv 0) pe_str (fun _ _ => rfl)) pa_nil))))))), ?_⟩
    exact ⟨_, rfl, q, _, rfl, plan_get hq (v_size ..), _, rfl, q, _, rfl, plan_get hq (v_first ..), _, rfl, q, _, rfl, plan_get hq (v_last ..), _, rfl, q, _, rfl, plan_get hq (v_moves ..), by show 4 ≤ sizeLine; decide, k⟩
def spLParts (K : PySem.W.Frag) (C : Addr) : Sp := fun vs H Q _ => ∃ (a : Addr) (n st la : Nat) (ms : List (Addr × Mv)), vs = [.ref a] ∧ MachAt K C H a n st la ms ∧
  ∀ q l, H q = none → MvsAt K H l ms → Q (.ref q) (upd H q (.tup [.int (n : Int), .int (st : Int), .int (la : Int), .ref l]))
theorem scPa : FnScope ["_law_it"] ["_law_it"] (defScope sLParts) := ⟨rfl, rfl, rfl, by decide +kernel, rfl, by decide +kernel, by decide +kernel⟩
theorem ok_lparts {f C : Addr} {fd : FuncData} (F : Fun K "_law_parts" "_law_parts" sLParts f fd) (M : MCls K C) : FnOk P w K mg base CX0 1 f fd ["_law_it"] (spLParts K C) := by
  refine F.ok scPa (fun vs H Q E h => ?_) (fun cdv A outer s H vs Q E hr h => ?_)
  · obtain ⟨a, n, st, la, ms, rfl, _⟩ := h
    rfl
  · obtain ⟨a, n, st, la, ms, rfl, hA, k⟩ := h
    obtain ⟨d, l, E1, F1, z, ha, hM, _⟩ := hA.ob
    refine ⟨_, (pss_one (ps_ret (pe_tup (pa_cons (pe_fld (pv 0) rfl) (pa_cons (pe_fld (pv 0) rfl) (pa_cons (pe_fld (pv 0) rfl) (pa_cons (pe_fld (pv 0) rfl) pa_nil))))))), ?_⟩
    refine ⟨_, rfl, a, C, d, _, _, rfl, ha, M.cl, M.a1, lk1 .., _, rfl, a, C, d, _, _, rfl, ha, M.cl, M.a2, lk2 .., _, rfl, a, C, d, _, _, rfl, ha, M.cl, M.a3, lk3 .., _, rfl, a, C, d, _, _, rfl, ha, M.cl, M.a4, lk4 .., (by show 4 ≤ sizeLine; decide), fun q nq => ?_⟩
    exact k q l nq hM
end
end Vk
set_option Elab.async false
set_option linter.all false
set_option maxRecDepth 100000
set_option maxHeartbeats 4000000
namespace Vk
open PySem PySem.Spec PyProof.Rows L2 Vt Vs1
abbrev sStr : Stmt := inClass (top8 28) 3
abbrev sLWritten : Stmt := top8 39
def blank : Str := ⟨#[32]⟩
def feed : Str := ⟨#[10]⟩
def headS (n : Nat) : Str := Str.join blank ["machine", num n]
def endsS (st la : Nat) : Str := Str.join blank ["ends", num st, num la]
def lineS (m : Mv) : Str := Str.join blank ["move", num m.s, sg m.c, num m.t]
/-- the text of a machine -/
def pageS (n st la : Nat) (ms : List Mv) : Str := Str.join feed (headS n :: endsS st la :: ms.map lineS)
theorem headS_eq (n : Nat) : ("machine " : Str) ++ num n = headS n := by
  apply Str.ext'
  show ("machine " : Str).cps ++ (num n).cps = ("machine" : Str).cps ++ #[32] ++ (num n).cps
  have e : ("machine " : Str).cps = ("machine" : Str).cps ++ #[32] := by decide
  rw [e]
theorem endsS_eq (st la : Nat) : ("ends " : Str) ++ num st ++ (" " : Str) ++ num la = endsS st la := by
  apply Str.ext'
  show ("ends " : Str).cps ++ (num st).cps ++ (" " : Str).cps ++ (num la).cps = ("ends" : Str).cps ++ #[32] ++ ((num st).cps ++ #[32] ++ (num la).cps)
  have e : ("ends " : Str).cps = ("ends" : Str).cps ++ #[32] := by decide
  have e2 : (" " : Str).cps = #[32] := by decide
  rw [e, e2]
  simp only [Array.append_assoc]
theorem lineS_eq (m : Mv) : ("move " : Str) ++ num m.s ++ (" " : Str) ++ sg m.c ++ (" " : Str) ++ num m.t = lineS m := by
  apply Str.ext'
  show ("move " : Str).cps ++ (num m.s).cps ++ (" " : Str).cps ++ (sg m.c).cps ++ (" " : Str).cps ++ (num m.t).cps = ("move" : Str).cps ++ #[32] ++ ((num m.s).cps ++ #[32] ++ ((sg m.c).cps ++ #[32] ++ (num m.t).cps))
  have e : ("move " : Str).cps = ("move" : Str).cps ++ #[32] := by decide
  have e2 : (" " : Str).cps = #[32] := by decide
  rw [e, e2]
  simp only [Array.append_assoc]
theorem num_len {k : Nat} (h : k < 1000) : (num k).length ≤ 3 := (num_at h).2.1
theorem len_join (sep : Str) (L : List Str) : (Txt.join sep L).length ≤ (L.map (·.length)).sum + L.length * sep.length := by
  show (Builtin.Str.glued sep L).length ≤ _
  rw [StrLaws.glued_eq_join]
  exact StrLaws.join_length_le sep L
theorem len_line {m : Mv} (h1 : m.s < 1000) (h2 : m.t < 1000) : (lineS m).length ≤ 15 := by
  have a := num_len h1
  have b := num_len h2
  have e := StrLaws.join_length_le blank ["move", num m.s, sg m.c, num m.t]
  have e1 : ("move" : Str).length = 4 := rfl
  have e2 : blank.length = 1 := rfl
  have e3 : (sg m.c).length = 1 := rfl
  simp only [List.map_cons, List.map_nil, List.sum_cons, List.sum_nil, List.length_cons, List.length_nil, e1, e2, e3] at e
  unfold lineS
  omega
theorem lg_num {k : Nat} (h : k < 1000) : ((k : Nat) : Int).natAbs.log2 < 1920 := by
  have : ((k : Nat) : Int).natAbs = k := Int.natAbs_natCast k
  rw [this]
  have h2 : k < 2 ^ 10 := by omega
  by_cases e : k = 0
  · rw [e]; decide
  · have := (Nat.log2_lt e).mpr h2
    omega
theorem app_len {x y : Str} {m k : Nat} (hx : x.length ≤ m) (hy : y.length ≤ k) : (x ++ y).length ≤ m + k := by
  rw [PySem.Str.length_append]
  omega
theorem fits {x : Str} {m : Nat} (h : x.length ≤ m) (hm : m ≤ 1000) : x.length ≤ sizeLine := by
  rw [sizeLine_eq]
  omega
theorem e_len : Str.empty.length ≤ 0 := Nat.le_refl _
theorem b_len : (" " : Str).length ≤ 1 := by decide
theorem empty_app (x : Str) : Str.empty ++ x = x := PySem.Str.empty_append x
/-- the page's lines, in all -/
theorem page_len {n st la : Nat} {ms : List Mv} (hn : n < 1000) (hs : st < 1000) (hl : la < 1000) (hm : ∀ m ∈ ms, m.s < 1000 ∧ m.t < 1000) (few : ms.length ≤ 3999) : ((headS n :: endsS st la :: ms.map lineS).map (·.length)).sum ≤ 30 + 15 * ms.length ∧ (headS n :: endsS st la :: ms.map lineS).length = ms.length + 2 := by
  have h1 : (headS n).length ≤ 11 := by
    rw [← headS_eq]
    exact app_len (m := 8) (by decide) (num_len hn)
  have h2 : (endsS st la).length ≤ 12 := by
    rw [← endsS_eq]
    exact app_len (m := 9) (app_len (m := 8) (app_len (m := 5) (by decide) (num_len hs)) b_len) (num_len hl)
  have h3 : ((ms.map lineS).map (·.length)).sum ≤ 15 * ms.length := by
    clear few
    induction ms with
    | nil => exact Nat.le_refl _
    | cons m ms ih =>
      have a := ih fun x hx => hm x (.tail _ hx)
      have b := len_line (hm m List.mem_cons_self).1 (hm m List.mem_cons_self).2
      rw [List.map_cons, List.map_cons, List.sum_cons, List.length_cons]
      omega
  refine ⟨?_, by rw [List.length_cons, List.length_cons, List.length_map]⟩
  rw [List.map_cons, List.map_cons, List.sum_cons, List.sum_cons]
  omega
theorem page_eq (n st la : Nat) (ms : List Mv) : Txt.join ("\n" : Str) (headS n :: endsS st la :: ms.map lineS) = pageS n st la ms := by
  show Builtin.Str.glued ("\n" : Str) _ = _
  rw [StrLaws.glued_eq_join]
  have e : ("\n" : Str) = feed := by decide
  rw [e]
  rfl
/-- sep.join(xs), also in a comprehension -/
theorem pe_joinK {X : Cx} {K : PySem.W.Frag} (hK : X.K = K) {o e : Expr} {to te : TE} {apos pos : Pos} (ho : PE X o to) (he : PE X e te) (hs : starEach [e] X.env = [(false, eval e X.env)]) (hbase : attributeBase o "join" X.env (eval o X.env) = eval o X.env) (hline : (apos.endLine == pos.line) = true) :
    PE X (.Call (.Attribute o "join" apos) [e] [] pos) (tM1 (fun x xs H Q => ∃ a p, ∃ ys : List Str, x = .str a ∧ xs = [.ref p] ∧ (SqL K H p (ys.map V.str) ∨ SqT K H p (ys.map V.str)) ∧
      (ys.map (·.length)).sum + ys.length * a.length ≤ 16777216 ∧ Q (.str (Txt.join a ys)) H) to te) := by
  subst hK
  exact pe_join ho he hs hbase hline
section
variable {P : Program} {w : World} {K : PySem.W.Frag} {mg : Str → Option Value} {base : Heap}
/-- str of a machine -/
def spStr (K : PySem.W.Frag) (C : Addr) : Sp := fun vs H Q _ => ∃ (a : Addr) (n st la : Nat) (ms : List (Addr × Mv)), vs = [.ref a] ∧ MachAt K C H a n st la ms ∧ ∀ H', Same H H' → Q (.str (pageS n st la (ms.map (·.2)))) H'
theorem scSt : FnScope ["self", "lines", "source", "letter", "target"] ["self"] (defScope sStr) := ⟨rfl, rfl, rfl, by decide +kernel, rfl, by decide +kernel, by decide +kernel⟩
theorem ok_str {f C : Addr} {fd : FuncData} (F : Fun K "__str__" "Machine.__str__" sStr f fd) (M : MCls K C) : FnOk P w K mg base CX0 1 f fd ["self"] (spStr K C) := by
  refine F.ok scSt (fun vs H Q E h => ?_) (fun cdv A outer s H vs Q E hr h => ?_)
  · obtain ⟨a, n, st, la, ms, rfl, _⟩ := h
    rfl
  · obtain ⟨a, n, st, la, ms, rfl, hA, k⟩ := h
    refine ⟨_, (pss_cons (ps_set (i := 1) scSt.nd rfl (.inl rfl) (pe_lst (pa_cons (pe_joined (.cons pe_str (.cons (pe_fmt (pe_fld (pv 0) rfl)) .nil))) (pa_cons (pe_joined (.cons pe_str (.cons (pe_fmt (pe_fld (pv 0) rfl)) (.cons pe_str (.cons (pe_fmt (pe_fld (pv 0) rfl)) .nil))))) pa_nil))))
        (pss_cons (ps_for PassesOwn.never rfl (pi_tup (pe_fld (pv 0) rfl)) (pg_tup rfl (pgs_cons (pg_name (i := 2) scSt.nd rfl (.inl rfl)) (pgs_cons (pg_name (i := 3) scSt.nd rfl (.inl rfl)) (pgs_cons (pg_name (i := 4) scSt.nd rfl (.inl rfl)) pgs_nil)))) (pss_one (ps_expr (pe_bm PySem.F.plainAttrs_list PySem.F.slot_list_append PySem.F.type_list_append mt_append (pv 1) (pa_cons (pe_joined (.cons pe_str (.cons (pe_fmt (pv 2)) (.cons pe_str (.cons (pe_fmt (pv 3)) (.cons pe_str (.cons (pe_fmt (pv 4)) .nil))))))) pa_nil)))))
        (pss_one (ps_ret (pe_join pe_str (pv 1)))))), ?_⟩
    obtain ⟨d, l, E1, F1, z, ha, hM, _⟩ := hA.ob
    have n9 := hA.ok.n2
    have s9 := hA.ok.hst
    have l9 := hA.ok.hla
    have few := hA.ok.few
    have n3 := num_len (k := n) (by omega)
    have s3 := num_len (k := st) (by omega)
    have l3 := num_len (k := la) (by omega)
    have c1 : (Str.empty ++ ("machine " : Str)).length ≤ 8 := app_len (m := 0) (k := 8) e_len (by decide)
    have c2 : (Str.empty ++ ("ends " : Str)).length ≤ 5 := app_len (m := 0) (k := 5) e_len (by decide)
    refine ⟨_, rfl, fits c1 (by decide), _, rfl, a, C, d, _, _, rfl, ha, M.cl, M.a1, lk1 .., .inr ⟨_, rfl, lg_num (by omega), _, rfl, fits (app_len c1 n3) (by decide), ?_⟩⟩
    refine ⟨_, rfl, fits c2 (by decide), _, rfl, a, C, d, _, _, rfl, ha, M.cl, M.a2, lk2 .., .inr ⟨_, rfl, lg_num (by omega), _, rfl, fits (app_len c2 s3) (by decide), ?_⟩⟩
    refine ⟨_, rfl, fits (app_len (app_len c2 s3) b_len) (by decide), _, rfl, a, C, d, _, _, rfl, ha, M.cl, M.a3, lk3 .., .inr ⟨_, rfl, lg_num (by omega), _, rfl, fits (app_len (app_len (app_len c2 s3) b_len) l3) (by decide), ?_⟩⟩
    refine ⟨by show 2 ≤ sizeLine; decide, fun L nL => ?_⟩
    have e1 : Str.empty ++ ("machine " : Str) ++ num n = headS n := by rw [empty_app, headS_eq]
    have e2 : Str.empty ++ ("ends " : Str) ++ num st ++ (" " : Str) ++ num la = endsS st la := by rw [empty_app, endsS_eq]
    have S1 : Same H (upd H L (.lst [.str (Str.empty ++ ("machine " : Str) ++ num n), .str (Str.empty ++ ("ends " : Str) ++ num st ++ (" " : Str) ++ num la)])) := same_up nL
    have ha1 := S1 _ _ ha
    refine ⟨_, rfl, a, C, d, _, _, rfl, ha1, M.cl, M.a4, lk4 .., l, rfl, ⟨_, same_seqT S1 hM.tp⟩, ?_⟩
    refine for_tup (K := K) (a := l) (xs := ms.map fun p => V.ref p.1) (fun i σ H' => ∃ (x2 x3 x4 : Option V), σ = [some (.ref a), some (.ref L), x2, x3, x4] ∧ Same H H' ∧ H' L = some (.lst ((headS n :: endsS st la :: (ms.take i).map fun p => lineS p.2).map V.str)))
      ⟨_, _, _, rfl, S1, by rw [upd_same]; show some (HO.lst [V.str (Str.empty ++ ("machine " : Str) ++ num n), V.str (Str.empty ++ ("ends " : Str) ++ num st ++ (" " : Str) ++ num la)]) = _; rw [e1, e2] <;> rfl⟩ (fun i σ H' _ ⟨_, _, _, _, S', _⟩ => same_seqT S' hM.tp) ?_ ?_
    · rintro i y σ H' hi ⟨x2, x3, x4, rfl, S', hL⟩
      rw [List.getElem?_map] at hi
      obtain ⟨p, hp, rfl⟩ := Option.map_eq_some_iff.mp hi
      have pm := List.mem_of_getElem? hp
      obtain ⟨o1, o2, _⟩ := hA.ok.ok p pm
      have il : i < ms.length := (List.getElem?_eq_some_iff.mp hp).1
      have ps := num_len (k := p.2.s) (by omega)
      have pt := num_len (k := p.2.t) (by omega)
      have pc : (sg p.2.c).length ≤ 1 := Nat.le_refl _
      have c3 : (Str.empty ++ ("move " : Str)).length ≤ 5 := app_len (m := 0) (k := 5) e_len (by decide)
      have c4 := app_len (app_len c3 ps) b_len
      have c5 := app_len (app_len c4 pc) b_len
      refine ⟨p.1, _, rfl, same_seqT S' (hM.it p pm), rfl, _, _, rfl, _, _, rfl, _, _, rfl, rfl, ?_⟩
      refine ⟨_, rfl, .inl ⟨rfl, _, SqL.of hL⟩, _, rfl, fits c3 (by decide), _, rfl, .inr ⟨_, rfl, lg_num (by omega), _, rfl, fits (app_len c3 ps) (by decide), ?_⟩⟩
      refine ⟨_, rfl, fits c4 (by decide), _, rfl, .inl ⟨_, rfl, fits pc (by decide), _, rfl, fits (app_len c4 pc) (by decide), ?_⟩⟩
      refine ⟨_, rfl, fits c5 (by decide), _, rfl, .inr ⟨_, rfl, lg_num (by omega), _, rfl, fits (app_len c5 pt) (by decide), ?_⟩⟩
      refine ⟨L, _, _, rfl, rfl, hL, by rw [List.length_map, List.length_cons, List.length_cons, List.length_map, List.length_take, sizeLine_eq]; omega, ?_⟩
      have e3 : Str.empty ++ ("move " : Str) ++ num p.2.s ++ (" " : Str) ++ sg p.2.c ++ (" " : Str) ++ num p.2.t = lineS p.2 := by rw [empty_app, lineS_eq]
      refine ⟨_, _, _, rfl, fun c o e => ?_, ?_⟩
      · rw [upd_ne (ne_of_none e nL)]
        exact S' _ _ e
      · rw [upd_same, List.take_add_one, hp, List.map_append, List.map_cons, List.map_cons, List.map_cons, List.map_cons, List.map_append]
        show some (HO.lst (V.str (headS n) :: V.str (endsS st la) :: (List.map V.str (List.map (fun p => lineS p.2) (List.take i ms)) ++ [V.str (Str.empty ++ ("move " : Str) ++ num p.2.s ++ (" " : Str) ++ sg p.2.c ++ (" " : Str) ++ num p.2.t)]))) = _
        rw [e3]
        rfl
    · rintro σ H' ⟨x2, x3, x4, rfl, S', hL⟩
      rw [List.length_map, List.take_length] at hL
      have em : (ms.map fun p => lineS p.2) = (ms.map (·.2)).map lineS := by rw [List.map_map] <;> rfl
      rw [em] at hL
      obtain ⟨p1, p2⟩ := page_len (n := n) (st := st) (la := la) (ms := ms.map (·.2)) (by omega) (by omega) (by omega) (fun m hm => by
        obtain ⟨p, hp, rfl⟩ := List.mem_map.mp hm
        obtain ⟨o1, o2, _⟩ := hA.ok.ok p hp
        omega) (by rw [List.length_map]; exact few)
      rw [List.length_map] at p1 p2
      refine ⟨⟨_, rfl⟩, _, rfl, _, L, _, rfl, rfl, .inl (SqL.of hL), ?_, ?_⟩
      · rw [p2]
        have : ("\n" : Str).length = 1 := by decide
        rw [this]
        omega
      · rw [page_eq]
        exact k H' S'
end
end Vk
set_option Elab.async false
set_option linter.all false
set_option maxRecDepth 100000
set_option maxHeartbeats 4000000
namespace Vk
open PySem PySem.Spec PyProof.Rows L2 Vt Vs1
abbrev sTn : Stmt := top8 21
abbrev sTs : Stmt := top8 22
abbrev sTe : Stmt := top8 23
abbrev sTm : Stmt := top8 24
abbrev sTms : Stmt := top8 25
abbrev sMp : Stmt := top8 20
theorem dig_in : ∀ c : Nat, 48 ≤ c → c ≤ 57 → decide (c ∈ ("0123456789" : Str).cps.toList) = true := by
  intro c h1 h2
  have e : c = 48 ∨ c = 49 ∨ c = 50 ∨ c = 51 ∨ c = 52 ∨ c = 53 ∨ c = 54 ∨ c = 55 ∨ c = 56 ∨ c = 57 := by omega
  rcases e with rfl | rfl | rfl | rfl | rfl | rfl | rfl | rfl | rfl | rfl <;> decide +kernel
theorem none_back {H H' : Hp} {p : Addr} (S : Same H H') (h : H' p = none) : H p = none := by
  cases e : H p with
  | none => rfl
  | some o =>
    rw [S _ _ e] at h
    cases h
end Vk
set_option Elab.async false
set_option linter.all false
set_option maxRecDepth 100000
set_option maxHeartbeats 4000000
namespace Vk
open PySem PySem.Spec PyProof.Rows L2 Vt Vs1
/-! ## a <= b of two moves -/
def eqMvAt (m m' : Mv) : Nat → Bool
  | 0 => ((m.s : Int) == (m'.s : Int))
  | 1 => (sg m.c == sg m'.c)
  | _ => ((m.t : Int) == (m'.t : Int))
def leMvAt (m m' : Mv) : Nat → Bool
  | 0 => decide ((m.s : Int) ≤ (m'.s : Int))
  | 1 => !decide ((sg m'.c).cps.toList < (sg m.c).cps.toList)
  | _ => decide ((m.t : Int) ≤ (m'.t : Int))
def leMv (m m' : Mv) : Bool := Ob.lexAt (eqMvAt m m') (leMvAt m m') (decide (3 ≤ 3)) 0 (min 3 3)
def rLeMv (K : PySem.W.Frag) : R2 := fun x y H Q => ∃ (a b : Addr) (m m' : Mv), x = .ref a ∧ y = .ref b ∧ SqT K H a (mvV m) ∧ SqT K H b (mvV m') ∧ Q (.bl (leMv m m')) H
theorem op_leMv {X : Cx} (hu : X.A.units < cLine) : OpR X (compareOp .LtE) (rLeMv X.K) := by
  intro pins s σ H x y v u Q I rx ry h
  obtain ⟨a, b, m, m', rfl, rfl, ha, hb, q⟩ := h
  cases rx
  cases ry
  obtain ⟨its, r1, p1, _⟩ := I.tuple ha
  obtain ⟨its2, r2, p2, _⟩ := I.tuple hb
  unfold mvV at r1 r2
  cases r1 with | cons a1 r1 => cases r1 with | cons a2 r1 => cases r1 with | cons a3 r1 => cases r1 with | nil =>
  cases r2 with | cons b1 r2 => cases r2 with | cons b2 r2 => cases r2 with | cons b3 r2 => cases r2 with | nil =>
  obtain ⟨t1, rfl⟩ := a1
  obtain ⟨t2, rfl⟩ := a2
  obtain ⟨t3, rfl⟩ := a3
  obtain ⟨u1, rfl⟩ := b1
  obtain ⟨u2, rfl⟩ := b2
  obtain ⟨u3, rfl⟩ := b3
  have R := Ob.RcOp.tuples_le (A := X.A) (s := s) (e := eqMvAt m m') (r := leMvAt m m') p1 p2 hu (fun j h1 h2 => by
    match j, h1, h2 with
    | 0, _, _ => exact SeqAt.EqAt.int_int _ _ _ _
    | 1, _, _ => exact SeqAt.EqAt.str_str _ _ _ _
    | 2, _, _ => exact SeqAt.EqAt.int_int _ _ _ _
    | k + 3, h, _ => exact absurd h (by simp)) (fun j h1 h2 _ => by
    match j, h1, h2 with
    | 0, _, _ => exact Ob.RcOp.le_int _ _ _ _
    | 1, _, _ => exact fun _ _ _ _ h => PySem.P.le_str h
    | 2, _, _ => exact Ob.RcOp.le_int _ _ _ _
    | k + 3, h, _ => exact absurd h (by simp))
  exact R X.prog X.w X.xe (EP X pins σ Q) ⟨.bl _, H, I, rfl, q⟩
theorem leMv_no {m m' : Mv} (h : mvLt m' m) : leMv m m' = false := by
  have e : leMv m m' = (if eqMvAt m m' 0 = true then (if eqMvAt m m' 1 = true then (if eqMvAt m m' 2 = true then true else leMvAt m m' 2) else leMvAt m m' 1) else leMvAt m m' 0) := rfl
  rw [e]
  unfold mvLt at h
  have s0 : (eqMvAt m m' 0 = true) ↔ m.s = m'.s := by
    show (((m.s : Int) == (m'.s : Int)) = true) ↔ _
    rw [beq_iff_eq]
    omega
  have s1 : (eqMvAt m m' 1 = true) ↔ m.c = m'.c := by
    show ((sg m.c == sg m'.c) = true) ↔ _
    rw [beq_iff_eq]
    exact ⟨fun z => (List.cons.inj (congrArg (fun y : Str => y.cps.toList) z)).1, fun z => by rw [z]⟩
  have s2 : (eqMvAt m m' 2 = true) ↔ m.t = m'.t := by
    show (((m.t : Int) == (m'.t : Int)) = true) ↔ _
    rw [beq_iff_eq]
    omega
  by_cases c0 : m.s = m'.s
  · rw [if_pos (s0.mpr c0)]
    by_cases c1 : m.c = m'.c
    · rw [if_pos (s1.mpr c1)]
      by_cases c2 : m.t = m'.t
      · omega
      · rw [if_neg (fun z => c2 (s2.mp z))]
        exact decide_eq_false (by omega)
    · rw [if_neg (fun z => c1 (s1.mp z))]
      show (!decide ([m'.c] < [m.c])) = false
      rw [decide_eq_true (by rw [List.cons_lt_cons_iff]; exact .inl (by omega))] <;> rfl
  · rw [if_neg (fun z => c0 (s0.mp z))]
    exact decide_eq_false (by omega)
end Vk
set_option Elab.async false
set_option linter.all false
set_option maxRecDepth 100000
set_option maxHeartbeats 4000000
namespace Vk
open PySem PySem.Spec PyProof.Rows L2 Vt Vs1
theorem for_enum {K : PySem.W.Frag} {a : Addr} {xs : List V} {g : TG} {tb : TS} {D : Ends} {σ : St} {H : Hp} (Pv : Nat → St → Hp → Prop) (h0 : Pv 0 σ H) (hl : ∀ i σ H, i ≤ xs.length → Pv i σ H → SqL K H a xs)
    (hs : ∀ i x σ H T, xs[i]? = some x → H T = none → Pv i σ H → g (.ref T) σ (upd H T (.tup [.int (i : Nat), x])) fun σ2 H2 => tb { D with nx := Pv (i + 1), ct := Pv (i + 1), bk := D.nx } σ2 H2) (hd : ∀ σ H, Pv xs.length σ H → D.nx σ H) :
    ∃ W : Nat → Nat → St → Hp → Prop, (∃ m, W 0 m σ H) ∧ ∀ i m σ H, W i m σ H →
      ((Ite K a).stop i H ∧ D.nx σ H) ∨ ((Ite K a).go i H ∧ ∃ N : St → Hp → Prop, (∀ σ' H', N σ' H' → ∃ m', m' < m ∧ W (i + 1) m' σ' H') ∧ ∀ x H', (Ite K a).yld i H x H' → g x σ H' fun σ2 H2 => tb { D with nx := N, ct := N, bk := D.nx } σ2 H2) := by
  refine ⟨fun i m σ H => m = xs.length - i ∧ i ≤ xs.length ∧ Pv i σ H, ⟨xs.length, by simp, Nat.zero_le _, h0⟩, ?_⟩
  rintro i m σ H ⟨rfl, hi, p⟩
  have q := hl i σ H hi p
  by_cases hlt : i < xs.length
  · refine .inr ⟨⟨xs, xs[i], q, List.getElem?_eq_getElem hlt⟩, Pv (i + 1), fun σ' H' p' => ⟨xs.length - (i + 1), by omega, rfl, hlt, p'⟩, fun v H' y => ?_⟩
    obtain ⟨T, x, rfl, nT, rfl, y⟩ := y
    exact hs i x σ H T (y xs q) nT p
  · have e : i = xs.length := by omega
    subst e
    exact .inl ⟨⟨xs, q, Nat.le_refl _⟩, hd σ H p⟩
theorem same_seqL {K : PySem.W.Frag} {H H' : Hp} {a : Addr} {xs : List V} (e : Same H H') (h : SqL K H a xs) : SqL K H' a xs := by
  rcases h with (h | ⟨u, h⟩) | h
  · exact .inl (.inl (e _ _ h))
  · exact .inl (.inr ⟨u, e _ _ h⟩)
  · exact .inr h
theorem seqT_lst {K : PySem.W.Frag} {H : Hp} {a b : Addr} {ys xs : List V} {o : HO} (h : SqT K H b xs) (ha : H a = some (.lst ys)) : SqT K (upd H a o) b xs := by
  rcases h with (h | ⟨u, h⟩) | h
  · exact .inl (.inl (by rw [upd_ne (ne_of h ha (fun z => by cases z))]; exact h))
  · exact .inl (.inr ⟨u, by rw [upd_ne (ne_of h ha (fun z => by cases z))]; exact h⟩)
  · exact .inr h
theorem page_short {n st la : Nat} {ms : List Mv} (hn : n < 1000) (hs : st < 1000) (hl : la < 1000) (hm : ∀ m ∈ ms, m.s < 1000 ∧ m.t < 1000) (few : ms.length ≤ 3999) : (pageS n st la ms).length ≤ 70000 := by
  obtain ⟨h1, h2⟩ := page_len hn hs hl hm few
  have e := StrLaws.join_length_le feed (headS n :: endsS st la :: ms.map lineS)
  have e2 : feed.length = 1 := rfl
  rw [e2, h2] at e
  unfold pageS
  omega
end Vk
set_option Elab.async false
set_option linter.all false
set_option maxRecDepth 100000
set_option maxHeartbeats 4000000
namespace Vk
open PySem PySem.Spec PyProof.Rows L2 Vt Vs1
abbrev sRead : Stmt := inClass (top8 28) 4
/-! ## a class held by a local name, called -/
def tMakeL (i : Nat) (C : Addr) (sp : Sp) (dvs : List V) (E : XK) (t : TA) : TE := fun σ H Q => σ[i]? = some (some (.ref C)) ∧ tMake C sp dvs E t σ H Q
theorem pe_makeL {X : Cx} {CX : CXT} {k i : Nat} {f C : Addr} {fd : FuncData} {ps : List Str} {sp : Sp} {dvs : List V} {ds : List Value} {E : XK} {x : Str} {p pos : Pos} {e : Expr} {es : List Expr} {t : TA}
    (M : Mk X.K C f) (F : FnOk X.prog X.w X.K X.mg X.base CX k f fd ps sp) (hr : Room (k + 1) X.A) (hb : Binds X.K fd ps ds) (hd : Vals dvs ds) (hx : Passes CX X E) (ha : PA X (e :: es) t)
    (hN : X.N[i]? = some x := by rfl) (hv : Vis X.env.scope x := by first | exact Or.inl rfl | exact Or.inr (Or.inl rfl) | exact Or.inr (Or.inr rfl))
    (hdb : (x == ("__debug__" : Str)) = false := by decide) (hcd : (x == ("__classdict__" : Str)) = false := by decide)
    (he : starEach (e :: es) X.env = (false, eval e X.env) :: starEach es X.env := by rfl) (hpl : (backTo pos (starEach es X.env)).any (·.1) = false := by rfl) : PE X (.Call (.Name x p) (e :: es) [] pos) (tMakeL i C sp dvs E t) := by
  refine ⟨fun pins s σ H Q I h => ?_⟩
  obtain ⟨hs, ht⟩ := h
  refine wpAny_Call_Name_kw (thn ((pe_var (pos := p) hN hv hdb hcd).run pins s σ H (fun v H1 => v = .ref C ∧ H1 = H) I ⟨.ref C, hs, rfl, rfl⟩) fun u s1 ⟨v, H1, I1, r1, q1⟩ => ?_)
  obtain ⟨rfl, rfl⟩ := q1
  cases r1
  refine PySem.W.callWith_K (h₀ := X.base) I.ok.mod.kin M.kp (thn (ha.run pos pins s1 σ _ _ I1 ht) fun us s2 ⟨vs, H2, I2, r, q⟩ => ⟨I2.kIn, ?_⟩) he hpl
  exact run_make M F hr hb hd hx I2 r q
/-! ## moves apart from their places -/
theorem mvLt_tri (a b : Mv) : mvLt a b ∨ a = b ∨ mvLt b a := by
  rw [mv_eq]
  unfold mvLt
  omega
theorem lt_of_asc {ms : List (Addr × Mv)} (h : Asc ms) : (ms.map (·.2)).Pairwise mvLt := by
  unfold Asc at h
  rw [List.pairwise_map] at h ⊢
  refine h.imp fun {x y} z => ?_
  have z' : leM (y.1, mvK y.2) (x.1, mvK x.2) = false := z
  rcases mvLt_tri x.2 y.2 with c | c | c
  · exact c
  · rw [leM_key (x := (y.1, mvK y.2)) (y := (x.1, mvK x.2)) (by rw [c])] at z'
    cases z'
  · exfalso
    have w := leM_lt c y.1 x.1
    have tot := PySem.W.sortLe_total (listOrd itemOrd) false fun b : Addr × List Key => PySem.W.keyToks (encM b)
    rcases tot.total (x.1, mvK x.2) (y.1, mvK y.2) with q | q
    · have q' : leM (x.1, mvK x.2) (y.1, mvK y.2) = true := q
      rw [w] at q'
      cases q'
    · have q' : leM (y.1, mvK y.2) (x.1, mvK x.2) = true := q
      rw [z'] at q'
      cases q'
theorem asc_of_lt {ms : List (Addr × Mv)} (h : (ms.map (·.2)).Pairwise mvLt) : Asc ms := by
  unfold Asc
  rw [List.pairwise_map] at h ⊢
  exact h.imp fun {x y} z => leM_lt z x.1 y.1
theorem OkM.twin {n st la : Nat} {ms qs : List (Addr × Mv)} (o : OkM n st la ms) (e : qs.map (·.2) = ms.map (·.2)) : OkM n st la qs := by
  have mem : ∀ {P : Mv → Prop}, (∀ p ∈ ms, P p.2) → ∀ p ∈ qs, P p.2 := fun {P} h p hp => by
    have : p.2 ∈ ms.map (·.2) := by rw [← e]; exact List.mem_map.mpr ⟨p, hp, rfl⟩
    obtain ⟨q, hq, eq⟩ := List.mem_map.mp this
    rw [← eq]
    exact h q hq
  have mp : ∀ {β : Type} (g : Mv → β), (qs.map fun p => g p.2) = ms.map fun p => g p.2 := fun {β} g => by
    have := congrArg (List.map g) e
    rw [List.map_map, List.map_map] at this
    exact this
  refine ⟨o.n1, o.n2, o.hst, o.hla, mem (P := OkMv n) o.ok, asc_of_lt (by rw [e]; exact lt_of_asc o.asc), by rw [mp (eK 0)]; exact o.e0, by rw [mp (eK 2)]; exact o.e2, ?_, ?_, ?_⟩
  · have := congrArg List.length e
    rw [List.length_map, List.length_map] at this
    have f := o.few
    omega
  · have : Vk.fw qs = Vk.fw ms := mp fun m => (m.s, m.t)
    rw [this]
    exact o.fw
  · have : Vk.bw qs = Vk.bw ms := mp fun m => (m.t, m.s)
    rw [this]
    exact o.bw
end Vk
set_option Elab.async false
set_option linter.all false
set_option maxRecDepth 100000
set_option maxHeartbeats 4000000
namespace Vk
open PySem PySem.Spec PyProof.Rows L2 Vt Vs1
/-- repr of lists and tuples alone: no dict in it, so no place is barred -/
def rReprD (K : PySem.W.Frag) : List V → Hp → VK → Prop := fun xs H Q => ∃ (a : Addr) (d : PyData), xs = [.ref a] ∧ Dp K H (.ref a) d ∧ d.hasDict = false ∧ d.showable = true ∧ d.depth ≤ 60 ∧ d.shown.length ≤ sizeLine ∧ Q (.str d.shown) H
theorem call_reprD {X : Cx} {k : Nat} (hgd : X.A.guards = some []) (hr : Room k X.A) : CallR X (.builtin "repr") (rReprD X.K) := by
  intro pins s σ H xs us Q I rv ⟨a, d, e, dp, nd, sh, deep, few, q⟩
  subst e
  rw [Vals.ref1 rv]
  obtain ⟨as, rd⟩ := Dp.reads I d _ _ dp rfl
  have room := hr.units
  exact repr_of_reads' rd sh (PyData.noDict_hsm nd) hgd (by omega) (fun _ _ z => z) (fun h' u tk keep => ⟨.str d.shown, H, I.kept keep, ⟨u, rfl⟩, q⟩) few
/-! ## how long the told parts are -/
theorem listText_le (ts : List Str) : (listText ts).length ≤ piled ts + 2 := by
  cases ts with
  | nil => exact Nat.le_refl _
  | cons t r =>
    unfold listText textFrom
    rw [strLen_append, textFrom_length_pos _ _ _ Nat.one_pos, strLen_append, strLen_append, piled_cons, if_neg (Nat.lt_irrefl 0)]
    show 1 + 0 + t.length + piled r + 1 ≤ t.length + 2 + piled r + 2
    omega
theorem tupleText_le (ts : List Str) : (tupleText ts).length ≤ piled ts + 3 := by
  have ends : ∀ b : Bool, ((if b = true then ",)" else ")" : String) : Str).length ≤ 2 := by decide
  have mid : (Str.join ", " ts).length ≤ piled ts := by
    cases ts with
    | nil => exact Nat.zero_le _
    | cons t r =>
      have := join_length_add (t :: r) (List.cons_ne_nil _ _)
      omega
  have last := ends (ts.length == 1)
  unfold tupleText
  rw [strLen_append, strLen_append]
  show 1 + (Str.join ", " ts).length + _ ≤ _
  omega
theorem shown_small {i : Nat} (h : i < 1000) : (PyData.shown (.int (i : Int))).length ≤ 3 := by
  have : ∀ i : Fin 1000, (PyData.shown (.int ((i.1 : Nat) : Int))).length ≤ 3 := by decide +kernel
  exact this ⟨i, h⟩
theorem shown_sg {c : Nat} (h1 : 97 ≤ c) (h2 : c ≤ 122) : (PyData.shown (.str (sg c))).length ≤ 5 := by
  have : ∀ i : Fin 26, (PyData.shown (.str (sg (97 + i.1)))).length ≤ 5 := by decide +kernel
  have := this ⟨c - 97, by omega⟩
  rw [show 97 + (c - 97) = c by omega] at this
  exact this
theorem shown_mv {n : Nat} (h : n ≤ 999) {m : Mv} (ok : OkMv n m) : (PyData.shown (mvD m)).length ≤ 22 := by
  obtain ⟨h1, h2, h3, h4⟩ := ok
  have a := shown_small (i := m.s) (by omega)
  have b := shown_small (i := m.t) (by omega)
  have c := shown_sg h3 h4
  have e : PyData.shown (mvD m) = tupleText [PyData.shown (.int (m.s : Int)), PyData.shown (.str (sg m.c)), PyData.shown (.int (m.t : Int))] := rfl
  rw [e]
  have := tupleText_le [PyData.shown (.int (m.s : Int)), PyData.shown (.str (sg m.c)), PyData.shown (.int (m.t : Int))]
  simp only [piled_cons, piled_nil] at this
  omega
theorem piled_mvs {n : Nat} (h : n ≤ 999) : ∀ ms : List (Addr × Mv), (∀ p ∈ ms, OkMv n p.2) → piled (PyData.shownAll (ms.map fun p => mvD p.2)) ≤ 24 * ms.length
  | [], _ => Nat.le_refl _
  | p :: ms, ok => by
    have a := shown_mv h (ok p List.mem_cons_self)
    have b := piled_mvs h ms fun q hq => ok q (.tail _ hq)
    rw [List.map_cons, PyData.shownAll, piled_cons, List.length_cons]
    omega
/-- the parts of a machine, told -/
def ptD (n st la : Nat) (ms : List (Addr × Mv)) : PyData := .tuple [.int (n : Int), .int (st : Int), .int (la : Int), .tuple (ms.map fun p => mvD p.2)]
theorem show_mvs {n : Nat} (h : n ≤ 999) : ∀ ms : List (Addr × Mv), (∀ p ∈ ms, OkMv n p.2) → PyData.showableAll (ms.map fun p => mvD p.2) = true
  | [], _ => rfl
  | p :: ms, ok => by
    have b := show_mvs h ms fun q hq => ok q (.tail _ hq)
    rw [List.map_cons, PyData.showableAll, b, Bool.and_true]
    obtain ⟨h1, h2, _⟩ := ok p List.mem_cons_self
    have lg : ∀ k : Nat, k < 1000 → decide (((k : Nat) : Int).natAbs.log2 < 1920) = true := fun k hk => decide_eq_true (lg_num hk)
    show (decide (((p.2.s : Nat) : Int).natAbs.log2 < 1920) && (true && (decide (((p.2.t : Nat) : Int).natAbs.log2 < 1920) && true))) = true
    rw [lg _ (by omega), lg _ (by omega)]
    rfl
theorem nodict_mvs : ∀ ms : List (Addr × Mv), PyData.hasDictAll (ms.map fun p => mvD p.2) = false
  | [] => rfl
  | p :: ms => by
    rw [List.map_cons, PyData.hasDictAll, nodict_mvs ms, Bool.or_false]
    rfl
theorem pt_nodict (n st la : Nat) (ms : List (Addr × Mv)) : (PyData.list [ptD n st la ms, ptD n st la ms]).hasDict = false := by
  have e : (ptD n st la ms).hasDict = false := by
    show (false || (false || (false || (PyData.hasDictAll (ms.map fun p => mvD p.2) || false)))) = false
    rw [nodict_mvs] <;> rfl
  show ((ptD n st la ms).hasDict || ((ptD n st la ms).hasDict || false)) = false
  rw [e] <;> rfl
theorem depth_mvs : ∀ ms : List (Addr × Mv), PyData.depthAll (ms.map fun p => mvD p.2) ≤ 1
  | [] => Nat.zero_le _
  | p :: ms => by
    have b := depth_mvs ms
    have e2 : (mvD p.2).depth ≤ 1 := by simp [mvD, PyData.depth, PyData.depthAll]
    rw [List.map_cons, PyData.depthAll]
    omega
theorem pt_good {n st la : Nat} (h1 : 1 ≤ n) (h : n ≤ 999) (hs : st < n) (hl : la < n) {ms : List (Addr × Mv)} (few : ms.length ≤ 3999) (ok : ∀ p ∈ ms, OkMv n p.2) :
    (PyData.list [ptD n st la ms, ptD n st la ms]).showable = true ∧ (PyData.list [ptD n st la ms, ptD n st la ms]).depth ≤ 60 ∧ (PyData.list [ptD n st la ms, ptD n st la ms]).shown.length ≤ sizeLine := by
  have s1 : (ptD n st la ms).showable = true := by
    show (decide (((n : Nat) : Int).natAbs.log2 < 1920) && (decide (((st : Nat) : Int).natAbs.log2 < 1920) && (decide (((la : Nat) : Int).natAbs.log2 < 1920) && (PyData.showableAll (ms.map fun p => mvD p.2) && true)))) = true
    have lg : ∀ i : Fin 1000, decide (((i.1 : Nat) : Int).natAbs.log2 < 1920) = true := fun i => decide_eq_true (lg_num i.2)
    rw [lg ⟨n, by omega⟩, lg ⟨st, by omega⟩, lg ⟨la, by omega⟩, show_mvs h ms ok] <;> rfl
  have d1 : (ptD n st la ms).depth ≤ 3 := by
    have := depth_mvs ms
    simp only [ptD, PyData.depth, PyData.depthAll]
    omega
  have z1 : (ptD n st la ms).shown.length ≤ 100000 := by
    have a := shown_small (i := n) (by omega)
    have b := shown_small (i := st) (by omega)
    have b2 := shown_small (i := la) (by omega)
    have c := piled_mvs h ms ok
    have d := tupleText_le (PyData.shownAll (ms.map fun p => mvD p.2))
    have e : (ptD n st la ms).shown = tupleText [PyData.shown (.int (n : Int)), PyData.shown (.int (st : Int)), PyData.shown (.int (la : Int)), tupleText (PyData.shownAll (ms.map fun p => mvD p.2))] := rfl
    rw [e]
    have f := tupleText_le [PyData.shown (.int (n : Int)), PyData.shown (.int (st : Int)), PyData.shown (.int (la : Int)), tupleText (PyData.shownAll (ms.map fun p => mvD p.2))]
    simp only [piled_cons, piled_nil] at f
    omega
  refine ⟨?_, ?_, ?_⟩
  · show ((ptD n st la ms).showable && ((ptD n st la ms).showable && true)) = true
    rw [s1] <;> rfl
  · simp only [PyData.depth, PyData.depthAll]
    omega
  · have e : (PyData.list [ptD n st la ms, ptD n st la ms]).shown = listText [(ptD n st la ms).shown, (ptD n st la ms).shown] := rfl
    rw [e]
    have f := listText_le [(ptD n st la ms).shown, (ptD n st la ms).shown]
    simp only [piled_cons, piled_nil] at f
    rw [sizeLine_eq]
    omega
theorem ptD_eq {n st la : Nat} {ms qs : List (Addr × Mv)} (e : ms.map (·.2) = qs.map (·.2)) : ptD n st la ms = ptD n st la qs := by
  have h : (ms.map fun p => mvD p.2) = qs.map fun p => mvD p.2 := by
    have := congrArg (List.map mvD) e
    rw [List.map_map, List.map_map] at this
    exact this
  unfold ptD
  rw [h]
theorem dp_pt {K : PySem.W.Frag} {H : Hp} {q l : Addr} {n st la : Nat} {ms : List (Addr × Mv)} (h : SqT K H q [.int (n : Int), .int (st : Int), .int (la : Int), .ref l]) (hM : MvsAt K H l ms) : Dp K H (.ref q) (ptD n st la ms) :=
  .tup h (.cons (.int _) (.cons (.int _) (.cons (.int _) (.cons (.tup hM.tp (dp_mvs hM.it)) .nil))))
/-- one by position, one by keyword -/
def gC {α : Type} : List α → List α → List α
  | [c], [u] => [c, u]
  | _, _ => []
theorem gC_rel {vs zs : List V} {us ws : List Value} (r1 : Vals vs us) (r2 : Vals zs ws) : Vals (gC vs zs) (gC us ws) := by
  cases r1 with
  | nil => exact .nil
  | cons a r1 =>
    cases r1 with
    | cons b r1 => exact .nil
    | nil =>
      cases r2 with
      | nil => exact .nil
      | cons c r2 =>
        cases r2 with
        | nil => exact .cons a (.cons c .nil)
        | cons d r2 => exact .nil
theorem kw_binds2 {K : PySem.W.Frag} {x qual : Str} {st : Stmt} {f : Addr} {fd : FuncData} {p0 p : Str} (F : Fun K x qual st f fd)
    (h : ∀ (kV doc pm : Value) (an : Option Addr) (cdv ct : Value) (c u : Value), bindArgs (PySem.W.fnOf x qual (defArgs st) (defBody st) (defScope st) .none kV doc pm an cdv ct) ⟨[c], [(p, u)]⟩ = pure ([p0, p].zip [c, u])) :
    KBinds K fd [p0, p] [p] gC gC := by
  obtain ⟨oc, od, kV, doc, pm, an, cdv, ct, osl, rfl, lk, hcd⟩ := F.ex
  refine ⟨fun s us ws _ hl => ?_, fun r1 r2 => gC_rel r1 r2⟩
  match us, ws, hl with
  | [c], [u], _ => exact BindsTo.of_eq (h kV doc pm an cdv ct c u)
  | [], _, z => cases z
  | [_], [], z => cases z
  | [_], _ :: _ :: _, z => cases z
  | _ :: _ :: _, _, z => cases z
end Vk
set_option Elab.async false
set_option linter.all false
set_option maxRecDepth 100000
set_option maxHeartbeats 4000000
namespace Vk
open PySem PySem.Spec PyProof.Rows L2 Vt Vs1 ClX
theorem mem_jl {c d : Nat} : ∀ {M : List (List Nat)}, c ∈ jl d M → c = d ∨ ∃ a ∈ M, c ∈ a
  | [], h => nomatch h
  | [a], h => .inr ⟨a, List.mem_cons_self, h⟩
  | a :: b :: r, h => by
    rcases List.mem_append.mp (show c ∈ a ++ d :: jl d (b :: r) from h) with h | h
    · exact .inr ⟨a, List.mem_cons_self, h⟩
    · rcases List.mem_cons.mp h with h | h
      · exact .inl h
      · rcases mem_jl h with h | ⟨x, hx, h⟩
        · exact .inl h
        · exact .inr ⟨x, .tail _ hx, h⟩
theorem join_lt {B d : Nat} {L : List Str} (hd : d < B) (h : ∀ a ∈ L, ∀ c ∈ a.cps.toList, c < B) : ∀ c ∈ (Str.join ⟨#[d]⟩ L).cps.toList, c < B := by
  intro c hc
  rw [join_jl] at hc
  rcases mem_jl hc with e | ⟨x, hx, hc⟩
  · rw [e]
    exact hd
  · obtain ⟨b, hb, rfl⟩ := List.mem_map.mp hx
    exact h b hb c hc
theorem lit_lt {x : Str} (h : (x.cps.toList.all fun c => decide (c < 128)) = true) : ∀ c ∈ x.cps.toList, c < 128 := fun c hc => of_decide_eq_true (List.all_eq_true.mp h c hc)
theorem num_lt {k : Nat} (h : k < 1000) : ∀ c ∈ (num k).cps.toList, c < 128 := fun c hc => by
  have := ((num_at h).2.2 c hc).2
  omega
theorem page_lt {n st la : Nat} {ms : List Mv} (hn : n < 1000) (hs : st < 1000) (hl : la < 1000) (hm : ∀ m ∈ ms, m.s < 1000 ∧ m.t < 1000 ∧ m.c ≤ 122) : ∀ c ∈ (pageS n st la ms).cps.toList, c < 128 := by
  refine join_lt (by decide) fun a ha => ?_
  rcases List.mem_cons.mp ha with rfl | ha
  · refine join_lt (by decide) fun b hb => ?_
    rcases List.mem_cons.mp hb with rfl | hb
    · exact lit_lt (by decide)
    rcases List.mem_cons.mp hb with rfl | hb
    · exact num_lt hn
    · cases hb
  rcases List.mem_cons.mp ha with rfl | ha
  · refine join_lt (by decide) fun b hb => ?_
    rcases List.mem_cons.mp hb with rfl | hb
    · exact lit_lt (by decide)
    rcases List.mem_cons.mp hb with rfl | hb
    · exact num_lt hs
    rcases List.mem_cons.mp hb with rfl | hb
    · exact num_lt hl
    · cases hb
  obtain ⟨m, hm1, rfl⟩ := List.mem_map.mp ha
  obtain ⟨h1, h2, h3⟩ := hm m hm1
  refine join_lt (by decide) fun b hb => ?_
  rcases List.mem_cons.mp hb with rfl | hb
  · exact lit_lt (by decide)
  rcases List.mem_cons.mp hb with rfl | hb
  · exact num_lt h1
  rcases List.mem_cons.mp hb with rfl | hb
  · intro c hc
    rcases List.mem_cons.mp hc with e | e
    · omega
    · cases e
  rcases List.mem_cons.mp hb with rfl | hb
  · exact num_lt h2
  · cases hb
end Vk
set_option Elab.async false
set_option linter.all false
set_option maxRecDepth 100000
set_option maxHeartbeats 4000000
namespace Vk
open PySem PySem.Spec PyProof.Rows L2 Vt
section
variable {P : Program} {w : World} {K : PySem.W.Frag} {mg : Str → Option Value} {base : Heap}
/-- pairs of states at sp; the answer: a dict of states, the first one among them, closed under the pairs -/
def spReachedM (K : PySem.W.Frag) : Sp := fun vs H Q _ => ∃ (n st : Nat) (sp : Addr) (ps : List (Addr × Nat × Nat)), vs = [.int (n : Int), .int (st : Int), .ref sp] ∧ SqL K H sp (ps.map fun p => V.ref p.1) ∧ (∀ p ∈ ps, SqT K H p.1 [.int (p.2.1 : Int), .int (p.2.2 : Int)]) ∧
  (∀ p ∈ ps, p.2.1 < n ∧ p.2.2 < n) ∧ st < n ∧ n ≤ 4000 ∧ ps.length ≤ 4000 ∧
  ∀ (d : Addr) (fnd : List Nat) (H' : Hp), Same H H' → H d = none → H' d = some (.dK (okD fnd)) → st ∈ fnd → (∀ p ∈ ps, p.2.1 ∈ fnd → p.2.2 ∈ fnd) → (∀ S : List Nat, st ∈ S → (∀ p ∈ ps, p.2.1 ∈ S → p.2.2 ∈ S) → ∀ x ∈ fnd, x ∈ S) → Q (.ref d) H'
theorem scR9 : FnScope ["size", "start", "steps", "ahead", "_", "source", "target", "found", "waiting", "state"] ["size", "start", "steps"] (defScope sReached) := ⟨rfl, rfl, rfl, by decide +kernel, rfl, by decide +kernel, by decide +kernel⟩
theorem ok_reachedM {f : Addr} {fd : FuncData} (F : Fun K "reached" "reached" sReached f fd) (T : Txt8 K mg) : FnOk P w K mg base CX0 1 f fd ["size", "start", "steps"] (spReachedM K) := by
  refine F.ok scR9 (fun vs H Q E h => ?_) (fun cdv A outer s H vs Q E hr h => ?_)
  · obtain ⟨n, st, sp, ps, rfl, _⟩ := h
    rfl
  · obtain ⟨n, st, sp, ps, rfl, hS, tup, lt, st0, nB, pB, k⟩ := h
    have hu := hu_of hr
    refine ⟨_, (pss_cons (ps_setLc (i := 3) (own := [("_", 4)]) (g := gName 4) (by rfl) scR9.nd rfl rfl (sw_true rfl rfl rfl (by decide +kernel)) (pi_range1 (by rfl) T.rng (pa_cons (pv 0) pa_nil)) (blkOk_by (own := [("_", 4)]) (N := ["size", "start", "steps", "ahead", "_", "source", "target", "found", "waiting", "state"]) (sc := defScope sReached) (by decide +kernel)) (fun _ _ _ _ _ => (pg_name (i := 4) scR9.nd rfl (.inl rfl))) (fun _ _ _ _ _ => pts_nil) (fun _ _ _ _ _ => (pe_lst pa_nil)))
        (pss_cons (ps_for PassesOwn.never rfl (pi_list (pv 2)) (pg_tup rfl (pgs_cons (pg_name (i := 5) scR9.nd rfl (.inl rfl)) (pgs_cons (pg_name (i := 6) scR9.nd rfl (.inl rfl)) pgs_nil))) (pss_one (ps_expr (pe_bm PySem.F.plainAttrs_list PySem.F.slot_list_append PySem.F.type_list_append mt_append (pe_ix ix_list (pv 3) (pv 5) (fun _ _ => rfl)) (pa_cons (pv 6) pa_nil)))))
        (pss_cons (ps_set (i := 7) scR9.nd rfl (.inl rfl) (pe_disp (pps_cons (pv 1) pe_bl pps_nil) (by rfl) (by rfl) (fun z => by cases z) (by decide)))
        (pss_cons (ps_set (i := 8) scR9.nd rfl (.inl rfl) (pe_lst (pa_cons (pv 1) pa_nil)))
        (pss_cons (ps_while PassesOwn.never (pt_truth (pv 8) (by intro _; rfl)) (pss_cons (ps_set (i := 9) scR9.nd rfl (.inl rfl) (pe_bm0 PySem.F.plainAttrs_list PySem.F.slot_list_pop PySem.F.type_list_pop mt_pop (pv 8)))
        (pss_one (ps_for PassesOwn.never rfl (pi_list (pe_ix ix_list (pv 3) (pv 9) (fun _ _ => rfl))) (pg_name (i := 6) scR9.nd rfl (.inl rfl)) (pss_one (ps_if (pt_cmp (pc_dnotin hu (pv 6) (pv 7))) (pss_cons (ps_dput hu (pv 7) (pv 6) pe_bl rfl)
        (pss_one (ps_expr (pe_bm PySem.F.plainAttrs_list PySem.F.slot_list_append PySem.F.type_list_append mt_append (pv 8) (pa_cons (pv 6) pa_nil))))) pss_nil))))))
        (pss_one (ps_ret (pv 7)))))))), ?_⟩
    refine ⟨_, rfl, (n : Int), rfl, by omega, by omega, fun A nA => ?_⟩
    rw [Int.toNat_natCast]
    refine lc_range (lo := 0) (n := n) (fun i H' => ∃ rs : List Addr, rs.length = i ∧ Same H H' ∧ H' A = some (.lst (rs.map V.ref)) ∧ rs.Nodup ∧ A ∉ rs ∧ ∀ r ∈ rs, H' r = some (.lst []) ∧ H r = none) ⟨[], rfl, same_up nA, upd_same, List.nodup_nil, (fun z => by cases z), (fun r z => by cases z)⟩ ?_ ?_
    · rintro i H' hi ⟨rs, e, S', hA, nd, ne, row⟩
      refine ⟨rfl, ?_⟩
      refine ⟨Nat.zero_le _, fun r nr => ?_⟩
      have nAr : A ≠ r := ne_of_none hA nr
      have nr0 : H r = none := S'.free nr
      refine ⟨rs.map V.ref, by rw [upd_ne nAr]; exact hA, by rw [List.length_map, e, sizeLine_eq]; omega, rs ++ [r], by rw [List.length_append, e] <;> rfl, fun b o z => ?_, by rw [upd_same, List.map_append] <;> rfl, ?_, ?_, fun q hq => ?_⟩
      · rw [upd_ne (ne_of_none z nA), upd_ne (ne_of_none z nr0)]
        exact S' _ _ z
      · refine List.nodup_append.mpr ⟨nd, List.nodup_cons.mpr ⟨(fun z => by cases z), List.nodup_nil⟩, fun a ha b hb => ?_⟩
        rw [List.mem_singleton.mp hb]
        exact ne_of_none (row a ha).1 nr
      · exact fun z => (List.mem_append.mp z).elim ne fun y => nAr (List.mem_singleton.mp y)
      · rcases List.mem_append.mp hq with z | z
        · have y := (row q z).1
          refine ⟨?_, (row q z).2⟩
          rw [upd_ne (fun (x : q = A) => ne (by rw [← x]; exact z)), upd_ne (ne_of_none y nr)]
          exact y
        · rw [List.mem_singleton.mp z]
          exact ⟨by rw [upd_ne nAr.symm]; exact upd_same, nr0⟩
    · rintro H1 ⟨rs, ers, S1, hA, nd, ne, row⟩
      have h0 : Rows H1 A rs fun _ => [] := ⟨hA, nd, fun i r z => (row r (List.mem_of_getElem? z)).1, ne⟩
      have old : ∀ r ∈ rs, H r = none := fun r z => (row r z).2
      clear row hA
      refine ⟨_, rfl, sp, rfl, ⟨_, S1.seq hS⟩, ?_⟩
      -- for source, target in steps
      refine for_list (K := K) (a := sp) (xs := ps.map fun p => V.ref p.1) (fun i σ H' => ∃ (v1 v2 : Option V) (f : Nat → List Nat), σ = [some (.int (n : Int)), some (.int (st : Int)), some (.ref sp), some (.ref A), none, v1, v2, none, none, none] ∧ Same H H' ∧ Rows H' A rs f ∧
        (∀ j x, x ∈ f j ↔ ∃ p ∈ ps.take i, p.2 = (j, x)) ∧ ∀ j, (f j).length ≤ i) ⟨none, none, fun _ => [], rfl, S1, h0, (fun j x => by simp), fun j => Nat.zero_le _⟩ (fun i σ H' _ ⟨_, _, _, _, S', _⟩ => S'.seq hS) ?_ ?_
      · rintro i y σ H' hi ⟨v1, v2, f, rfl, S', R, mem, len⟩
        rw [List.getElem?_map] at hi
        obtain ⟨p, hp, rfl⟩ := Option.map_eq_some_iff.mp hi
        have pm := List.mem_of_getElem? hp
        obtain ⟨q, a, b⟩ := p
        have hit := same_seqT S' (tup _ pm)
        have la : a < n := (lt _ pm).1
        have lb : b < n := (lt _ pm).2
        have al : a < rs.length := by omega
        obtain ⟨r, hr1⟩ : ∃ r, rs[a]? = some r := ⟨_, List.getElem?_eq_getElem al⟩
        have hrow := R.row a r hr1
        have hat : atI (rs.map V.ref) (a : Int) = some (.ref r) := atI_nat (by rw [List.getElem?_map, hr1] <;> rfl)
        have rm := List.mem_of_getElem? hr1
        refine ⟨q, _, rfl, hit, rfl, ?_⟩
        refine ⟨_, _, rfl, _, _, rfl, rfl, ?_⟩
        refine ⟨_, rfl, _, rfl, A, _, _, _, rfl, rfl, SqL.of R.top, hat, ?_⟩
        have nAr : A ≠ r := fun z => R.ne (by rw [z]; exact rm)
        have fl := len a
        have il : i < ps.length := (List.getElem?_eq_some_iff.mp hp).1
        refine ⟨.inl ⟨rfl, _, SqL.of hrow⟩, _, rfl, r, _, _, rfl, rfl, hrow, by rw [List.length_map, sizeLine_eq]; omega, _, _, fun j => if j = a then f a ++ [b] else f j, rfl, fun c o z => ?_, ⟨?_, R.nd, fun j r' hj => ?_, R.ne⟩, fun j x => ?_, fun j => ?_⟩
        · rw [upd_ne (ne_of_none z (old r rm))]
          exact S' _ _ z
        · rw [upd_ne nAr]
          exact R.top
        · show _ = some (HO.lst ((if j = a then f a ++ [b] else f j).map fun (x : Nat) => V.int (x : Int)))
          by_cases e : j = a
          · subst e
            rw [hr1] at hj
            cases hj
            rw [upd_same]
            simp
          · have ne2 : r' ≠ r := fun z => e ((List.getElem?_inj (List.getElem?_eq_some_iff.mp hj).1 R.nd).mp (by rw [hj, hr1, z]))
            rw [upd_ne ne2, if_neg e]
            exact R.row j r' hj
        · rw [List.take_add_one, hp]
          show x ∈ (if j = a then f a ++ [b] else f j) ↔ _
          by_cases e : j = a
          · subst e
            rw [if_pos rfl, List.mem_append, mem j x]
            simp only [Option.toList, List.mem_append, List.mem_singleton]
            constructor
            · rintro (⟨p, z, y⟩ | rfl)
              · exact ⟨p, .inl z, y⟩
              · exact ⟨_, .inr rfl, rfl⟩
            · rintro ⟨p, z | rfl, y⟩
              · exact .inl ⟨p, z, y⟩
              · exact .inr (congrArg Prod.snd y).symm
          · rw [if_neg e, mem j x]
            simp only [Option.toList, List.mem_append, List.mem_singleton]
            constructor
            · rintro ⟨p, z, y⟩
              exact ⟨p, .inl z, y⟩
            · rintro ⟨p, z | rfl, y⟩
              · exact ⟨p, z, y⟩
              · exact absurd (congrArg Prod.fst y).symm e
        · show (if j = a then f a ++ [b] else f j).length ≤ i + 1
          by_cases e : j = a
          · rw [if_pos e, List.length_append]
            show (f a).length + 1 ≤ i + 1
            omega
          · rw [if_neg e]
            exact Nat.le_succ_of_le (len j)
      · rintro σ H' ⟨v1, v2, f, rfl, S', R, mem, len⟩
        rw [List.length_map, List.take_length] at mem
        rw [List.length_map] at len
        have fB : ∀ j x, x ∈ f j → x < n := fun j x hx => by
          obtain ⟨p, hp, e⟩ := (mem j x).mp hx
          have := (lt p hp).2
          rw [e] at this
          exact this
        refine fun F nF => ⟨_, rfl, upd_same, [(.inl (st : Int), .bl true)], rfl, by show 1 ≤ 15; decide, ?_⟩
        refine ⟨_, rfl, by show 1 ≤ sizeLine; decide, fun W nW => ?_⟩
        rw [upd_upd] at nW ⊢
        have nF0 : H F = none := S'.free nF
        have nFW : F ≠ W := ne_of_none upd_same nW
        have nW1 : H' W = none := by rw [upd_ne nFW.symm] at nW; exact nW
        have nW0 : H W = none := S'.free nW1
        have aF : A ≠ F := ne_of_none R.top nF
        have aW : A ≠ W := ne_of_none R.top nW1
        have rF : F ∉ rs := fun z => by
          obtain ⟨i, hi, e⟩ := List.getElem_of_mem z
          have := R.row i F (by rw [List.getElem?_eq_getElem hi, e])
          rw [nF] at this
          cases this
        have rW : W ∉ rs := fun z => by
          obtain ⟨i, hi, e⟩ := List.getElem_of_mem z
          have := R.row i W (by rw [List.getElem?_eq_getElem hi, e])
          rw [nW1] at this
          cases this
        have keepR : ∀ {G : Hp} {o : HO} {q : Addr}, (q = F ∨ q = W) → Rows G A rs f → Rows (upd G q o) A rs f := fun {G o q} hq y => by
          have n1 : A ≠ q := by rcases hq with z | z <;> rw [z] <;> assumption
          have n2 : q ∉ rs := by rcases hq with z | z <;> rw [z] <;> assumption
          exact ⟨by rw [upd_ne n1]; exact y.top, y.nd, fun i r z => by rw [upd_ne (fun (e : r = q) => n2 (by rw [← e]; exact List.mem_of_getElem? z))]; exact y.row i r z, y.ne⟩
        have keepS : ∀ {G : Hp} {o : HO} {q : Addr}, (q = F ∨ q = W) → Same H G → Same H (upd G q o) := fun {G o q} hq y => by
          have n0 : H q = none := by rcases hq with z | z <;> rw [z] <;> assumption
          intro c u z
          rw [upd_ne (ne_of_none z n0)]
          exact y _ _ z
        have okN : ∀ {fnd : List Nat} (t : Nat), (valV (okD fnd) (Sum.inl (t : Int) : Key) = none → t ∉ fnd) ∧ (∀ v, valV (okD fnd) (Sum.inl (t : Int) : Key) = some v → t ∈ fnd) := fun {fnd} t => by
          induction fnd with
          | nil => exact ⟨fun _ z => (by cases z), fun v z => (by cases z)⟩
          | cons x fnd ih =>
            have e0 : okD (x :: fnd) = ((Sum.inl (x : Int) : Key), V.bl true) :: okD fnd := rfl
            rw [e0]
            unfold valV
            rw [List.find?_cons]
            by_cases e : x = t
            · subst e
              simp
            · have ne1 : decide ((Sum.inl (x : Int) : Key) = Sum.inl (t : Int)) = false := decide_eq_false fun z => e (Int.ofNat.inj (Sum.inl.inj z))
              rw [ne1]
              refine ⟨fun z y => ?_, fun v z => .tail _ (ih.2 v z)⟩
              rcases List.mem_cons.mp y with y | y
              · exact e y.symm
              · exact ih.1 z y
        have bound : ∀ {fnd : List Nat}, fnd.Nodup → (∀ x ∈ fnd, x < n) → fnd.length ≤ n := fun {fnd} h1 h2 => by
          have := nat_nodup_len fnd (List.range n) h1 fun x hx => List.mem_range.mpr (h2 x hx)
          rw [List.length_range] at this
          exact this
        have mk : mergeK [] [((Sum.inl (st : Int) : Key), V.bl true)] = okD [st] := rfl
        rw [mk]
        refine go_name ?_
        dsimp only
        refine go_seq ?_
        refine while_by (fun σ G => ∃ (v1 v2 v3 : Option V) (fnd wait : List Nat), σ = [some (.int (n : Int)), some (.int (st : Int)), some (.ref sp), some (.ref A), none, v1, v2, some (.ref F), some (.ref W), v3] ∧ Same H G ∧ Rows G A rs f ∧ G F = some (.dK (okD fnd)) ∧ G W = some (.lst (wait.map fun (x : Nat) => V.int (x : Int))) ∧
          fnd.Nodup ∧ (∀ x ∈ fnd, x < n ∧ ∀ S : List Nat, st ∈ S → (∀ p ∈ ps, p.2.1 ∈ S → p.2.2 ∈ S) → x ∈ S) ∧ (∀ x ∈ wait, x ∈ fnd) ∧ st ∈ fnd ∧ wait.length ≤ fnd.length ∧ ∀ a ∈ fnd, a ∈ wait ∨ ∀ b ∈ f a, b ∈ fnd)
          (fun _ G => match G W, G F with | some (.lst xs), some (.dK kvs) => xs.length + (n - kvs.length) | _, _ => 0)
          ⟨v1, v2, none, [st], [st], rfl, keepS (.inr rfl) (keepS (.inl rfl) S'), keepR (.inr rfl) (keepR (.inl rfl) R), by rw [upd_ne nFW]; exact upd_same, upd_same, List.nodup_cons.mpr ⟨(fun z => by cases z), List.nodup_nil⟩, (fun x hx => by rw [List.mem_singleton.mp hx]; exact ⟨st0, fun S h _ => h⟩), (fun x hx => hx), List.mem_cons_self, Nat.le_refl _, fun a ha => .inl ha⟩ ?_ ?_
        · rintro σ G ⟨v1, v2, v3, fnd, wait, rfl, SG, RG, hF, hW, nd, ltn, sub, stf, wl, cl⟩
          rcases List.eq_nil_or_concat wait with e | ⟨w0, x, e⟩
          · subst e
            refine ⟨_, rfl, false, .inl ⟨_, SqL.of hW, rfl⟩, ?_⟩
            refine iteF ?_
            refine ⟨_, rfl, k F fnd G SG nF0 hF stf (fun p hp hx => ?_) fun S h c x hx => (ltn x hx).2 S h c⟩
            rcases cl _ hx with z | z
            · cases z
            · exact z _ ((mem _ _).mpr ⟨p, hp, rfl⟩)
          · rw [List.concat_eq_append] at e
            subst e
            have hxn : x ∈ fnd := sub x (List.mem_append_right _ (List.mem_singleton.mpr rfl))
            have xl : x < n := (ltn x hxn).1
            obtain ⟨r, hr1⟩ : ∃ r, rs[x]? = some r := ⟨_, List.getElem?_eq_getElem (by omega)⟩
            have rm := List.mem_of_getElem? hr1
            have hat : atI (rs.map V.ref) (x : Int) = some (.ref r) := atI_nat (by rw [List.getElem?_map, hr1] <;> rfl)
            have dl : ((w0 ++ [x]).map fun (x : Nat) => V.int (x : Int)).dropLast = w0.map fun (x : Nat) => V.int (x : Int) := by
              rw [List.map_append]
              exact List.dropLast_concat
            refine ⟨_, rfl, true, .inl ⟨_, SqL.of hW, by simp⟩, ?_⟩
            refine iteT ?_
            refine ⟨_, rfl, .inl ⟨rfl, _, SqL.of hW⟩, W, _, .int (x : Int), rfl, rfl, hW, by simp, ?_⟩
            rw [dl]
            have G1 : Same H (upd G W (.lst (w0.map fun (x : Nat) => V.int (x : Int)))) := keepS (.inr rfl) SG
            have R1 := keepR (o := .lst (w0.map fun (x : Nat) => V.int (x : Int))) (.inr rfl) RG
            have nrW : r ≠ W := fun z => rW (by rw [← z]; exact rm)
            have nrF : r ≠ F := fun z => rF (by rw [← z]; exact rm)
            refine ⟨_, rfl, _, rfl, A, _, _, _, rfl, rfl, SqL.of R1.top, hat, r, rfl, ⟨_, SqL.of (R1.row x r hr1)⟩, ?_⟩
            have okl : ∀ l : List Nat, (okD l).length = l.length := fun l => List.length_map _
            refine for_list (K := K) (a := r) (xs := (f x).map fun (x : Nat) => V.int (x : Int)) (fun j σ G' => ∃ (v1 v2 : Option V) (fd wt : List Nat), σ = [some (.int (n : Int)), some (.int (st : Int)), some (.ref sp), some (.ref A), none, v1, v2, some (.ref F), some (.ref W), some (.int (x : Int))] ∧
              Same H G' ∧ Rows G' A rs f ∧ G' F = some (.dK (okD fd)) ∧ G' W = some (.lst (wt.map fun (x : Nat) => V.int (x : Int))) ∧ fd.Nodup ∧ (∀ x ∈ fd, x < n ∧ ∀ S : List Nat, st ∈ S → (∀ p ∈ ps, p.2.1 ∈ S → p.2.2 ∈ S) → x ∈ S) ∧ (∀ x ∈ wt, x ∈ fd) ∧ st ∈ fd ∧ wt.length ≤ fd.length ∧ (∀ a ∈ fd, a = x ∨ a ∈ wt ∨ ∀ b ∈ f a, b ∈ fd) ∧ x ∈ fd ∧ (∀ b ∈ (f x).take j, b ∈ fd) ∧
              wt.length + (n - fd.length) < (w0 ++ [x]).length + (n - fnd.length))
              ⟨v1, v2, fnd, w0, rfl, G1, R1, by rw [upd_ne nFW]; exact hF, upd_same, nd, ltn, (fun y hy => sub y (List.mem_append_left _ hy)), stf, (by rw [List.length_append] at wl; omega), (fun a ha => by
                rcases cl a ha with z | z
                · rcases List.mem_append.mp z with y | y
                  · exact .inr (.inl y)
                  · exact .inl (List.mem_singleton.mp y)
                · exact .inr (.inr z)), hxn, (fun b hb => by simp at hb), by rw [List.length_append]; show w0.length + _ < w0.length + 1 + _; omega⟩
              (fun j σ G' _ ⟨_, _, _, _, _, _, RG', _⟩ => SqL.of (RG'.row x r hr1)) ?_ ?_
            · rintro j y σ G' hj ⟨v1, v2, fd, wt, rfl, SG', RG', hF', hW', nd', ltn', sub', stf', wl', cl', hx', tk, ms⟩
              rw [List.getElem?_map] at hj
              obtain ⟨t, ht, rfl⟩ := Option.map_eq_some_iff.mp hj
              have tn : t < n := fB x t (List.mem_of_getElem? ht)
              have tk1 : (f x).take (j + 1) = (f x).take j ++ [t] := by rw [List.take_add_one, ht] <;> rfl
              have fb := bound nd' (fun y hy => (ltn' y hy).1)
              refine ⟨_, rfl, _, rfl, F, _, rfl, DGet.k (k := Sum.inl (t : Int)) hF', _, rfl, ?_⟩
              cases e : valV (okD fd) (Sum.inl (t : Int) : Key) with
              | some v =>
                refine iteF ?_
                refine ⟨v1, _, fd, wt, rfl, SG', RG', hF', hW', nd', ltn', sub', stf', wl', cl', hx', fun b hb => ?_, ms⟩
                rw [tk1] at hb
                rcases List.mem_append.mp hb with z | z
                · exact tk b z
                · rw [List.mem_singleton.mp z]
                  exact (okN t).2 v e
              | none =>
                have tf := (okN t).1 e
                refine iteT ?_
                have pk : putK (okD fd) (Sum.inl (t : Int) : Key) (V.bl true) = okD (fd ++ [t]) := by
                  rw [putK_new _ e]
                  unfold okD
                  rw [List.map_append] <;> rfl
                have nd2 : (fd ++ [t]).Nodup := List.nodup_append.mpr ⟨nd', List.nodup_cons.mpr ⟨(fun z => by cases z), List.nodup_nil⟩, fun a ha b hb z => tf (by rw [← List.mem_singleton.mp hb, ← z]; exact ha)⟩
                have lt2 : ∀ y ∈ fd ++ [t], y < n ∧ ∀ S : List Nat, st ∈ S → (∀ p ∈ ps, p.2.1 ∈ S → p.2.2 ∈ S) → y ∈ S := fun y hy => (List.mem_append.mp hy).elim (ltn' y) fun z => by
                  rw [List.mem_singleton.mp z]
                  refine ⟨tn, fun S h c => ?_⟩
                  obtain ⟨p, hp, e⟩ := (mem x t).mp (List.mem_of_getElem? ht)
                  have q := c p hp
                  rw [e] at q
                  exact q ((ltn' x hx').2 S h c)
                have fb2 := bound nd2 (fun y hy => (lt2 y hy).1)
                rw [List.length_append] at fb2
                have fb3 : fd.length + 1 ≤ n := fb2
                refine ⟨_, rfl, _, rfl, F, _, rfl, DPut.k (k := Sum.inl (t : Int)) hF' (by rw [okl, sizeLine_eq]; omega), ?_⟩
                rw [pk]
                have hW2 : (upd G' F (.dK (okD (fd ++ [t])))) W = some (.lst (wt.map fun (x : Nat) => V.int (x : Int))) := by rw [upd_ne nFW.symm]; exact hW'
                refine ⟨_, rfl, .inl ⟨rfl, _, SqL.of hW2⟩, _, rfl, W, _, _, rfl, rfl, hW2, by rw [List.length_map, sizeLine_eq]; omega, v1, _, fd ++ [t], wt ++ [t], rfl, keepS (.inr rfl) (keepS (.inl rfl) SG'), keepR (.inr rfl) (keepR (.inl rfl) RG'), by rw [upd_ne nFW]; exact upd_same,
                  by rw [upd_same, List.map_append] <;> rfl, nd2, lt2, fun y hy => ?_, List.mem_append_left _ stf', by rw [List.length_append, List.length_append]; exact Nat.succ_le_succ wl', fun a ha => ?_, List.mem_append_left _ hx', fun b hb => ?_, ?_⟩
                · rcases List.mem_append.mp hy with z | z
                  · exact List.mem_append_left _ (sub' y z)
                  · exact List.mem_append_right _ z
                · rcases List.mem_append.mp ha with z | z
                  · rcases cl' a z with q | q | q
                    · exact .inl q
                    · exact .inr (.inl (List.mem_append_left _ q))
                    · exact .inr (.inr fun b hb => List.mem_append_left _ (q b hb))
                  · exact .inr (.inl (List.mem_append_right _ z))
                · rw [tk1] at hb
                  rcases List.mem_append.mp hb with z | z
                  · exact List.mem_append_left _ (tk b z)
                  · exact List.mem_append_right _ z
                · rw [List.length_append, List.length_append]
                  show wt.length + 1 + (n - (fd.length + 1)) < _
                  omega
            · rintro σ G' ⟨v1, v2, fd, wt, rfl, SG', RG', hF', hW', nd', ltn', sub', stf', wl', cl', hx', tk, ms⟩
              rw [List.length_map, List.take_length] at tk
              refine ⟨⟨v1, v2, _, fd, wt, rfl, SG', RG', hF', hW', nd', ltn', sub', stf', wl', fun a ha => ?_⟩, ?_⟩
              · rcases cl' a ha with q | q | q
                · rw [q]
                  exact .inr tk
                · exact .inl q
                · exact .inr q
              · rw [hW', hF', hW, hF]
                show (wt.map _).length + (n - (okD fd).length) < ((w0 ++ [x]).map _).length + (n - (okD fnd).length)
                rw [okl, okl, List.length_map, List.length_map]
                exact ms
        · intro σ G Q1 Q2 h ⟨v, e, c, t, q⟩
          exact ⟨v, e, c, t, h _ _ q⟩
end
end Vk
set_option Elab.async false
set_option linter.all false
set_option maxRecDepth 100000
set_option maxHeartbeats 4000000
namespace Vk
open PySem PySem.Spec PyProof.Rows L2 Vt PySem.Vx
/-- what a def that raises BadMachine(v) lets out -/
def OutB (C : Addr) (v : V) (H : Hp) (E : XK) : Prop := ∀ d H', Same H H' → H d = none → H' d = some (.xd [("part", v)]) → E (.ref C) (some d) H'
theorem val_noD {fnd : List Nat} {t : Nat} (h : t ∉ fnd) : valV (okD fnd) (Sum.inl (t : Int) : Key) = none := by
  induction fnd with
  | nil => rfl
  | cons x fnd ih =>
    have e0 : okD (x :: fnd) = ((Sum.inl (x : Int) : Key), V.bl true) :: okD fnd := rfl
    rw [e0]
    unfold valV
    rw [List.find?_cons]
    have ne1 : decide ((Sum.inl (x : Int) : Key) = Sum.inl (t : Int)) = false := decide_eq_false fun z => h (by rw [Int.ofNat.inj (Sum.inl.inj z)]; exact List.mem_cons_self)
    rw [ne1]
    exact ih fun z => h (.tail _ z)
theorem val_in {fnd : List Nat} {t : Nat} {v : V} (e : valV (okD fnd) (Sum.inl (t : Int) : Key) = some v) : t ∈ fnd := Decidable.byContradiction fun z => by
  rw [val_noD z] at e
  cases e
section
variable {P : Program} {w : World} {K : PySem.W.Frag} {mg : Str → Option Value} {base : Heap}
/-- a state is come to from st -/
def ToIt (st : Nat) (es : List (Nat × Nat)) (x : Nat) : Prop := ∀ S : List Nat, st ∈ S → (∀ e ∈ es, e.1 ∈ S → e.2 ∈ S) → x ∈ S
/-- .. is not -/
def NotIt (st : Nat) (es : List (Nat × Nat)) (x : Nat) : Prop := ∃ S : List Nat, st ∈ S ∧ (∀ e ∈ es, e.1 ∈ S → e.2 ∈ S) ∧ x ∉ S
/-- x is the least state off the paths -/
def spPathsX (K : PySem.W.Frag) (C : Addr) : Sp := fun vs H _ E => ∃ (n st la : Nat) (l : Addr) (ms : List (Addr × Mv)), vs = [.int (n : Int), .int (st : Int), .int (la : Int), .ref l] ∧ MvsAt K H l ms ∧ (∀ p ∈ ms, OkMv n p.2) ∧ st < n ∧ la < n ∧ n ≤ 4000 ∧ ms.length ≤ 4000 ∧
  ∃ x, x < n ∧ (∀ y, y < x → ToIt st (fw ms) y) ∧ (∀ y, y < x → ToIt la (bw ms) y) ∧ (NotIt st (fw ms) x ∨ NotIt la (bw ms) x) ∧ OutB C (.int (x : Int)) H E
theorem ok_pathsX {f fR C fI : Addr} {fd fdR : FuncData} (F : Fun K "check_paths" "check_paths" sPaths f fd) (T : Txt8 K mg) (TK : EcK K C) (TU : EcI K C fI "part") (gE : mg "BadMachine" = some (.ref C)) (FR : Fun K "reached" "reached" sReached fR fdR) (gR : mg "reached" = some (.ref fR)) (bR : Binds K fdR ["size", "start", "steps"] []) :
    FnOk P w K mg base (L2.CX P w) 2 f fd ["size", "first", "last", "moves"] (spPathsX K C) := by
  have GR : FnOk P w K mg base CX0 1 fR fdR ["size", "start", "steps"] (spReachedM K) := ok_reachedM FR T
  refine F.okX scP (fun vs H Q E h => ?_) (fun cdv A outer s H vs Q E hr h => ?_)
  · obtain ⟨n, st, la, l, ms, rfl, _⟩ := h
    rfl
  · obtain ⟨n, st, la, l, ms, rfl, hM, ok, st0, la0, nB, mB, x, xn, cf, cb, bad, k⟩ := h
    have hu := hu_of hr
    refine ⟨_, (pss_cons (ps_set (i := 4) scP.nd rfl (.inl rfl) (pe_call GR hr rfl gR FR.kp bR .nil pass0 (pa_cons (pv 0) (pa_cons (pv 1) (pa_cons (pe_lc (own := [("move", 5)]) (g := gName 5) (by rfl) scP.nd (pi_tup (pv 3)) (blkOk_by (own := [("move", 5)]) (N := ["size", "first", "last", "moves", "ahead", "move", "behind", "state"]) (sc := defScope sPaths) (by decide +kernel)) (fun _ _ _ _ _ => (pg_name (i := 5) scP.nd rfl (.inl rfl))) (fun _ _ _ _ _ => pts_nil) (fun _ _ _ _ _ => (pe_tup (pa_cons (pe_ix (r := rIxT K) ix_tup (pv 5) pe_int (fun _ _ => rfl)) (pa_cons (pe_ix (r := rIxT K) ix_tup (pv 5) pe_int (fun _ _ => rfl)) pa_nil))))) pa_nil)))))
        (pss_cons (ps_set (i := 6) scP.nd rfl (.inl rfl) (pe_call GR hr rfl gR FR.kp bR .nil pass0 (pa_cons (pv 0) (pa_cons (pv 2) (pa_cons (pe_lc (own := [("move", 5)]) (g := gName 5) (by rfl) scP.nd (pi_tup (pv 3)) (blkOk_by (own := [("move", 5)]) (N := ["size", "first", "last", "moves", "ahead", "move", "behind", "state"]) (sc := defScope sPaths) (by decide +kernel)) (fun _ _ _ _ _ => (pg_name (i := 5) scP.nd rfl (.inl rfl))) (fun _ _ _ _ _ => pts_nil) (fun _ _ _ _ _ => (pe_tup (pa_cons (pe_ix (r := rIxT K) ix_tup (pv 5) pe_int (fun _ _ => rfl)) (pa_cons (pe_ix (r := rIxT K) ix_tup (pv 5) pe_int (fun _ _ => rfl)) pa_nil))))) pa_nil)))))
        (pss_one (ps_for (passes_of rfl) rfl (pi_range1 (by rfl) T.rng (pa_cons (pv 0) pa_nil)) (pg_name (i := 7) scP.nd rfl (.inl rfl)) (pss_one (ps_if (PW.pt (pw_or (pt_cmp (pc_dnotin hu (pv 7) (pv 4))) (pw_or1 (pt_cmp (pc_dnotin hu (pv 7) (pv 6)))))) (pss_one (ps_raise rfl (takes_of rfl rfl rfl rfl) (pmk_E TK TU gE hr (pa_cons (pv 7) pa_nil)))) pss_nil)))))), ?_⟩
    refine ⟨_, rfl, _, rfl, _, rfl, l, rfl, ⟨_, hM.tp⟩, fun D nD => ?_⟩
    refine lc_tup (K := K) (a := l) (xs := ms.map fun p => V.ref p.1) (fun i H' => ∃ qs : List (Addr × Nat × Nat), qs.map (·.2) = (fw ms).take i ∧ Same H H' ∧ H' D = some (.lst (qs.map fun p => V.ref p.1)) ∧ ∀ p ∈ qs, H' p.1 = some (.tup [.int (p.2.1 : Int), .int (p.2.2 : Int)]))
      ⟨[], rfl, same_up nD, upd_same, fun p z => by cases z⟩ (fun i H' _ ⟨_, _, S', _⟩ => same_seqT S' hM.tp) ?_ ?_
    · rintro i y H' hi ⟨qs, eq, S', hD, rows⟩
      rw [List.getElem?_map] at hi
      obtain ⟨p, hp, rfl⟩ := Option.map_eq_some_iff.mp hi
      have hit := same_seqT S' (hM.it p (List.mem_of_getElem? hp))
      have il : i < ms.length := (List.getElem?_eq_some_iff.mp hp).1
      have ql : qs.length ≤ i := by
        have := congrArg List.length eq
        rw [List.length_map, List.length_take] at this
        omega
      refine ⟨rfl, _, rfl, p.1, _, _, _, rfl, rfl, hit, rfl, _, rfl, p.1, _, _, _, rfl, rfl, hit, rfl, (by show 2 ≤ sizeLine; decide), fun q nq => ?_⟩
      have nDq : D ≠ q := ne_of_none hD nq
      refine ⟨qs.map fun p => V.ref p.1, by rw [upd_ne nDq]; exact hD, by rw [List.length_map, sizeLine_eq]; omega, qs ++ [(q, p.2.s, p.2.t)], ?_, fun c o z => ?_, by rw [upd_same, List.map_append] <;> rfl, fun r hr => ?_⟩
      · rw [List.map_append, eq, List.take_add_one]
        unfold fw
        rw [List.getElem?_map, hp] <;> rfl
      · rw [upd_ne (ne_of_none z nD)]
        exact same_up nq _ _ (S' _ _ z)
      · rcases List.mem_append.mp hr with z | z
        · have y := rows r z
          rw [upd_ne (ne_of y hD (fun x => by cases x)), upd_ne (ne_of_none y nq)]
          exact y
        · rw [List.mem_singleton.mp z, upd_ne nDq.symm]
          exact upd_same
    · rintro H1 ⟨qs, eq, S1, hD, rows⟩
      rw [List.length_map, show ms.length = (fw ms).length from (List.length_map _).symm, List.take_length] at eq
      have inq : ∀ {p : Addr × Nat × Nat}, p ∈ qs → p.2 ∈ fw ms := fun {p} hp => by rw [← eq]; exact List.mem_map.mpr ⟨p, hp, rfl⟩
      have qok : ∀ p ∈ qs, p.2.1 < n ∧ p.2.2 < n := fun p hp => by
        obtain ⟨m, hm, e⟩ := List.mem_map.mp (inq hp)
        rw [← e]
        exact ⟨(ok m hm).1, (ok m hm).2.1⟩
      have ql : qs.length ≤ 4000 := by
        have := congrArg List.length eq
        rw [List.length_map] at this
        unfold fw at this
        rw [List.length_map] at this
        omega
      refine ⟨n, st, D, qs, rfl, SqL.of hD, fun p hp => SqT.of (rows p hp), qok, st0, nB, ql, fun d1 f1 H2 S2 nd1 hd1 st1 c1 mn1 => ?_⟩
      have S12 := S1.trans S2
      have hM2 : MvsAt K H2 l ms := ⟨same_seqT S12 hM.tp, fun p hp => same_seqT S12 (hM.it p hp)⟩
      refine ⟨_, rfl, _, rfl, _, rfl, l, rfl, ⟨_, hM2.tp⟩, fun E2 nE => ?_⟩
      refine lc_tup (K := K) (a := l) (xs := ms.map fun p => V.ref p.1) (fun i H' => ∃ qs : List (Addr × Nat × Nat), qs.map (·.2) = (bw ms).take i ∧ Same H2 H' ∧ H' E2 = some (.lst (qs.map fun p => V.ref p.1)) ∧ ∀ p ∈ qs, H' p.1 = some (.tup [.int (p.2.1 : Int), .int (p.2.2 : Int)]))
        ⟨[], rfl, same_up nE, upd_same, fun p z => by cases z⟩ (fun i H' _ ⟨_, _, S', _⟩ => same_seqT S' hM2.tp) ?_ ?_
      · rintro i y H' hi ⟨qs, eq, S', hD, rows⟩
        rw [List.getElem?_map] at hi
        obtain ⟨p, hp, rfl⟩ := Option.map_eq_some_iff.mp hi
        have hit := same_seqT S' (hM2.it p (List.mem_of_getElem? hp))
        have il : i < ms.length := (List.getElem?_eq_some_iff.mp hp).1
        have ql : qs.length ≤ i := by
          have := congrArg List.length eq
          rw [List.length_map, List.length_take] at this
          omega
        refine ⟨rfl, _, rfl, p.1, _, _, _, rfl, rfl, hit, rfl, _, rfl, p.1, _, _, _, rfl, rfl, hit, rfl, (by show 2 ≤ sizeLine; decide), fun q nq => ?_⟩
        have nDq : E2 ≠ q := ne_of_none hD nq
        refine ⟨qs.map fun p => V.ref p.1, by rw [upd_ne nDq]; exact hD, by rw [List.length_map, sizeLine_eq]; omega, qs ++ [(q, p.2.t, p.2.s)], ?_, fun c o z => ?_, by rw [upd_same, List.map_append] <;> rfl, fun r hr => ?_⟩
        · rw [List.map_append, eq, List.take_add_one]
          unfold bw
          rw [List.getElem?_map, hp] <;> rfl
        · rw [upd_ne (ne_of_none z nE)]
          exact same_up nq _ _ (S' _ _ z)
        · rcases List.mem_append.mp hr with z | z
          · have y := rows r z
            rw [upd_ne (ne_of y hD (fun x => by cases x)), upd_ne (ne_of_none y nq)]
            exact y
          · rw [List.mem_singleton.mp z, upd_ne nDq.symm]
            exact upd_same
      · rintro H3 ⟨qs2, eq2, S3, hE, rows2⟩
        rw [List.length_map, show ms.length = (bw ms).length from (List.length_map _).symm, List.take_length] at eq2
        have inq2 : ∀ {p : Addr × Nat × Nat}, p ∈ qs2 → p.2 ∈ bw ms := fun {p} hp => by rw [← eq2]; exact List.mem_map.mpr ⟨p, hp, rfl⟩
        have qok2 : ∀ p ∈ qs2, p.2.1 < n ∧ p.2.2 < n := fun p hp => by
          obtain ⟨m, hm, e⟩ := List.mem_map.mp (inq2 hp)
          rw [← e]
          exact ⟨(ok m hm).2.1, (ok m hm).1⟩
        have ql2 : qs2.length ≤ 4000 := by
          have := congrArg List.length eq2
          rw [List.length_map] at this
          unfold bw at this
          rw [List.length_map] at this
          omega
        refine ⟨n, la, E2, qs2, rfl, SqL.of hE, fun p hp => SqT.of (rows2 p hp), qok2, la0, nB, ql2, fun d2 f2 H4 S4 nd2 hd2 st2 c2 mn2 => ?_⟩
        have hd1' := S4 _ _ (S3 _ _ hd1)
        have S14 := (S12.trans S3).trans S4
        have all1 : ∀ y, y < x → y ∈ f1 := fun y hy => cf y hy f1 st1 fun e he h1 => by
          rw [← eq] at he
          obtain ⟨p, hp, rfl⟩ := List.mem_map.mp he
          exact c1 p hp h1
        have all2 : ∀ y, y < x → y ∈ f2 := fun y hy => cb y hy f2 st2 fun e he h1 => by
          rw [← eq2] at he
          obtain ⟨p, hp, rfl⟩ := List.mem_map.mp he
          exact c2 p hp h1
        have off : x ∉ f1 ∨ x ∉ f2 := by
          rcases bad with ⟨S, h1, h2, h3⟩ | ⟨S, h1, h2, h3⟩
          · exact .inl fun z => h3 (mn1 S h1 (fun p hp => h2 p.2 (inq hp)) x z)
          · exact .inr fun z => h3 (mn2 S h1 (fun p hp => h2 p.2 (inq2 hp)) x z)
        refine ⟨_, rfl, (n : Int), rfl, by omega, by omega, ?_⟩
        rw [Int.toNat_natCast]
        refine for_range (lo := 0) (n := n) (fun i σ H' => i ≤ x ∧ ∃ v : Option V, σ = [some (.int (n : Int)), some (.int (st : Int)), some (.int (la : Int)), some (.ref l), some (.ref d1), none, some (.ref d2), v] ∧ H' = H4) ⟨Nat.zero_le _, none, rfl, rfl⟩ ?_ ?_
        · rintro i σ H' hi ⟨ix, v, rfl, rfl⟩
          have iz : (0 : Int) + (i : Int) = (i : Int) := Int.zero_add _
          have fin : i = x → ∀ d, H' d = none → E (.ref C) (some d) (upd H' d (.xd [("part", .int (i : Int))])) := fun e d hd => by
            rw [e]
            exact k d _ (S14.trans (same_up hd)) (none_back S14 hd) upd_same
          rcases Nat.lt_or_eq_of_le ix with lt | e
          · obtain ⟨v1, e1⟩ := val_okD (all1 i lt)
            obtain ⟨v2, e2⟩ := val_okD (all2 i lt)
            refine ⟨_, rfl, _, rfl, d1, _, rfl, by rw [iz]; exact DGet.k (k := Sum.inl (i : Int)) hd1', _, rfl, ?_⟩
            rw [e1]
            refine iteF ?_
            refine ⟨_, rfl, _, rfl, d2, _, rfl, by rw [iz]; exact DGet.k (k := Sum.inl (i : Int)) hd2, _, rfl, ?_⟩
            rw [e2]
            refine iteF ?_
            exact ⟨lt, _, rfl, rfl⟩
          · refine ⟨_, rfl, _, rfl, d1, _, rfl, by rw [iz]; exact DGet.k (k := Sum.inl (i : Int)) hd1', _, rfl, ?_⟩
            cases e1 : valV (okD f1) (Sum.inl (i : Int) : Key) with
            | none =>
              refine iteT ?_
              exact ⟨_, rfl, _, rfl, by rw [iz]; exact fin e⟩
            | some v1 =>
              refine iteF ?_
              refine ⟨_, rfl, _, rfl, d2, _, rfl, by rw [iz]; exact DGet.k (k := Sum.inl (i : Int)) hd2, _, rfl, ?_⟩
              have n2 : i ∉ f2 := by
                rw [e]
                rcases off with z | z
                · exact absurd (by rw [← e]; exact val_in e1) z
                · exact z
              rw [val_noD n2]
              refine iteT ?_
              exact ⟨_, rfl, _, rfl, by rw [iz]; exact fin e⟩
        · rintro σ H' ⟨ix, _⟩
          exact absurd xn (by omega)
end
end Vk
set_option Elab.async false
set_option linter.all false
set_option maxRecDepth 100000
set_option maxHeartbeats 4000000
namespace Vk
open PySem PySem.Spec PyProof.Rows L2 Vt PySem.Vx Vs1 ClX
structure PreM (n st la : Nat) (ms : List Mv) : Prop where
  n1 : 1 ≤ n
  n2 : n ≤ 999
  hst : st < n
  hla : la < n
  ok : ∀ m ∈ ms, OkMv n m
  asc : ms.Pairwise mvLt
  few : ms.length ≤ 3999
end Vk
set_option Elab.async false
set_option linter.all false
set_option maxRecDepth 100000
set_option maxHeartbeats 4000000
namespace Vk
open PySem PySem.Spec PyProof.Rows L2 Vt PySem.Vx Vs1 ClX
/-! ## repr of any data -/
def rReprV (K : PySem.W.Frag) : List V → Hp → VK → Prop := fun xs H Q => ∃ (v : V) (d : PyData), xs = [v] ∧ ((Dp K H v d ∧ d.hasDict = false) ∨ Dr K H v d) ∧ d.showable = true ∧ d.depth ≤ 60 ∧ d.shown.length ≤ sizeLine ∧ Q (.str d.shown) H
theorem call_reprU {X : Cx} (hgd : X.A.guards = some []) (room : X.A.units + 64 < cLine) : CallR X (.builtin "repr") (rReprV X.K) := by
  intro pins s σ H xs us Q I rv ⟨v, d, e, dp, sh, deep, few, q⟩
  subst e
  obtain ⟨u, rfl, ru⟩ := vals1 rv
  have main : ∃ as, Reads s.heap u d as ∧ (d.hasDict = true → sysModules ∉ as) := by
    rcases dp with ⟨dp, nd⟩ | dp
    · obtain ⟨as, rd⟩ := Dp.reads I d _ _ dp ru
      exact ⟨as, rd, PyData.noDict_hsm nd⟩
    · obtain ⟨as, rd, nm⟩ := dp.reads I ru
      exact ⟨as, rd, fun _ => nm⟩
  obtain ⟨as, rd, nm⟩ := main
  have go : ∀ t, EP X pins σ Q (.str d.shown t) { s with toks := s.toks + 1 } := fun t => ⟨.str d.shown, H, I.tok _, ⟨t, rfl⟩, q⟩
  cases u with
  | ref a => exact repr_of_reads' rd sh nm hgd (by omega) (fun _ _ z => z) (fun h' u tk keep => ⟨.str d.shown, H, I.kept keep, ⟨u, rfl⟩, q⟩) few
  | none =>
    cases rd
    exact PySem.P.repr_of_none (go _)
  | bool b =>
    cases rd
    exact PySem.P.repr_of_bool (by cases b <;> exact go _)
  | int i t =>
    cases rd
    exact PySem.P.repr_of_int (of_decide_eq_true sh) (go _)
  | str x t =>
    cases rd
    exact PySem.P.repr_of_str (go _) few
  | _ => cases rd
theorem call_reprV {X : Cx} {k : Nat} (hgd : X.A.guards = some []) (hr : Room k X.A) : CallR X (.builtin "repr") (rReprV X.K) := call_reprU hgd hr.units
end Vk
set_option Elab.async false
set_option linter.all false
set_option maxRecDepth 100000
set_option maxHeartbeats 4000000
namespace Vk
open PySem PySem.Spec PyProof.Rows L2 Vt PySem.Vx Vs1 ClX
def ltR (z : Str) : Option Nat := match z.cps.toList with
  | [c] => if 97 ≤ c ∧ c ≤ 122 then some c else none
  | _ => none
theorem ltR_some {z : Str} {c : Nat} (h : ltR z = some c) : z = sg c ∧ 97 ≤ c ∧ c ≤ 122 := by
  unfold ltR at h
  split at h
  · rename_i d e
    split at h
    · cases h
      rename_i hc
      refine ⟨Str.ext' (Array.toList_inj.mp e), hc⟩
    · cases h
  · cases h
theorem lt_one {a b : Nat} : (!decide ([a] < [b])) = decide (b ≤ a) := by
  rw [Bool.eq_iff_iff]
  simp [List.cons_lt_cons_iff]
theorem str_one {z : Str} (h : z.length = 1) : ∃ c, z = sg c := by
  have l : z.cps.toList.length = 1 := by rw [Array.length_toList]; exact h
  obtain ⟨c, e⟩ := List.length_eq_one_iff.mp l
  exact ⟨c, Str.ext' (Array.toList_inj.mp e)⟩
theorem ltR_sg (c : Nat) : (ltR (sg c)).isSome = (decide (97 ≤ c) && decide (c ≤ 122)) := by
  show (if 97 ≤ c ∧ c ≤ 122 then some c else none).isSome = _
  by_cases h : 97 ≤ c ∧ c ≤ 122
  · rw [if_pos h, decide_eq_true h.1, decide_eq_true h.2] <;> rfl
  · rw [if_neg h]
    symm
    rw [Option.isSome_none, Bool.and_eq_false_iff, decide_eq_false_iff_not, decide_eq_false_iff_not]
    omega
theorem ltR_len {z : Str} (h : z.length ≠ 1) : ltR z = none := by
  unfold ltR
  split
  · rename_i c e
    exact absurd (by rw [← Array.length_toList, e] <;> rfl : z.cps.size = 1) h
  · rfl
/-! ## an own object made within a try -/
section
variable {X : Cx} {CX : CXT} {k : Nat} {f C : Addr} {fd : FuncData} {ps : List Str} {sp : Sp} {dvs : List V} {ds : List Value} {E : L2.St → XK} {x : Str} {p pos : Pos} {e : Expr} {es : List Expr} {t : TA}
def tMakeS (C : Addr) (sp : Sp) (dvs : List V) (E : L2.St → XK) (t : TA) : TE := fun σ H Q => t σ H fun vs H1 => ∀ x dx, H1 x = none → H1 dx = none → dx ≠ x →
  sp (.ref x :: (vs ++ dvs)) (upd (upd H1 dx (.own x)) x (.ins C dx [])) (fun v H2 => v = .non ∧ Q (.ref x) H2) (E σ)
theorem run_makeS {pins : List (Addr × Obj)} {σ : L2.St} {H : Hp} {s : Shared} {Q : VK} {us : List Value} {vs : List V} (M : Mk X.K C f) (F : FnOk X.prog X.w X.K X.mg X.base CX k f fd ps sp) (hr : Room (k + 1) X.A) (hb : Binds X.K fd ps ds) (hd : Vals dvs ds)
    (hx : PassesAt CX X σ (E σ)) (I : Inv X pins σ H s) (r : Vals vs us)
    (h : ∀ x dx, H x = none → H dx = none → dx ≠ x → sp (.ref x :: (vs ++ dvs)) (upd (upd H dx (.own x)) x (.ins C dx [])) (fun v H2 => v = .non ∧ Q (.ref x) H2) (E σ)) :
    wpAny (model X.prog X.w) X.A (call (.ref C) us) (EP X pins σ Q) X.xe s := by
  have hq := h (s.heap.objs.size + 1) s.heap.objs.size (I.hok.fresh (Nat.le_succ _)) (I.hok.fresh (Nat.le_refl _)) (Nat.ne_of_lt (Nat.lt_succ_self _))
  have I2 := Inv.made (C := C) I
  have r2 : Vals (V.ref (s.heap.objs.size + 1) :: (vs ++ dvs)) (Value.ref (s.heap.objs.size + 1) :: (us ++ ds)) := .cons rfl (r.append hd)
  have hl : (Value.ref (s.heap.objs.size + 1) :: us ++ ds).length = ps.length := by
    have e := r2.length
    rw [F.len _ _ _ _ hq] at e
    exact e.symm
  refine wpAny_call (make_map (f := f) I.kIn M.makes M.init (beq_iff_eq.mp M.fn) (codeAny_mono (F.run _ X.stack _ _ ⟨Value.ref (s.heap.objs.size + 1) :: us, []⟩ (Value.ref (s.heap.objs.size + 1) :: (us ++ ds)) _ _ (E σ) (hr.make C us [])
    (I2.env0.make C us []) (hb _ (Value.ref (s.heap.objs.size + 1) :: us) I2.kIn hl) r2 hq) fun r s' hq' => ?_))
  cases r with
  | error e => exact hx pins _ _ e s' I2 hq'
  | ok fl =>
    cases fl with
    | ret u =>
      obtain ⟨v, H', I3, rv, ev, q3⟩ := I2.after hq'
      subst ev
      exact ⟨rv, ⟨V.ref (s.heap.objs.size + 1), H', I3, rfl, q3⟩⟩
    | next => exact False.elim hq'
    | brk => exact False.elim hq'
    | cont => exact False.elim hq'
theorem pe_makeS (M : Mk X.K C f) (F : FnOk X.prog X.w X.K X.mg X.base CX k f fd ps sp) (hr : Room (k + 1) X.A) (hg : Gl X x) (hm : X.mg x = some (.ref C)) (hb : Binds X.K fd ps ds) (hd : Vals dvs ds) (hx : ∀ σ, PassesAt CX X σ (E σ))
    (ha : PA X (e :: es) t) (hdb : (x == ("__debug__" : Str)) = false := by decide) (he : starEach (e :: es) X.env = (false, eval e X.env) :: starEach es X.env := by rfl) (hpl : (backTo pos (starEach es X.env)).any (·.1) = false := by rfl) :
    PE X (.Call (.Name x p) (e :: es) [] pos) (tMakeS C sp dvs E t) := by
  refine ⟨fun pins s σ H Q I h => ?_⟩
  refine wpAny_Call_Name_kw (ld_glob I hg hm ?_ hdb)
  refine PySem.W.callWith_K (h₀ := X.base) I.ok.mod.kin M.kp (thn (ha.run pos pins s σ H _ I h) fun us s1 ⟨vs, H1, I1, r, q⟩ => ⟨I1.kIn, ?_⟩) he hpl
  exact run_makeS M F hr hb hd (hx σ) I1 r q
end
theorem call_reprS {X : Cx} {a : Addr} {pn : List (Addr × Obj)} (hgd : X.A.guards = some []) (hu : X.A.units + 64 < cLine) : CallR (X.suite a pn) (.builtin "repr") (rReprV X.K) := call_reprU (X := X.suite a pn) hgd hu
/-- a list display in an except suite: its place is not that of the error -/
def tLstA (a : Addr) (t : TA) : TE := fun σ H Q => t σ H fun xs H1 => xs.length ≤ sizeLine ∧ ∀ p, H1 p = none → p ≠ a → Q (.ref p) (upd H1 p (.lst xs))
theorem pe_lstS {X : Cx} {a : Addr} {oe : Obj} {pn : List (Addr × Obj)} {es : List Expr} {t : TA} {pos : Pos} (h : PA (X.suite a ((a, oe) :: pn)) es t) : PE (X.suite a ((a, oe) :: pn)) (.List es pos) (tLstA a t) := by
  refine ⟨fun pins s σ H Q I q0 => wpAny_List_spliced (thn (h.run pos pins s σ H _ I q0) fun us s1 ⟨xs, H1, I1, r, z, q⟩ => ⟨r.length ▸ z, ?_⟩)⟩
  have hf : H1 s1.heap.objs.size = none := I1.fresh
  have hn : s1.heap.objs.size ≠ a := fun e => by
    have ho := (I1.pin (a, oe) (List.mem_append_left _ List.mem_cons_self)).1
    have := Heap.lt_size ho
    rw [e] at this
    exact Nat.lt_irrefl _ this
  exact ⟨.ref s1.heap.objs.size, _, I1.laid (t' := s1.toks) (o := .lst xs) (fun b u e => Heap.get?_push_of_some _ e) (Nat.le_refl _) ⟨z, us, 0, r, Heap.get?_push_size _ rfl⟩, rfl, q _ hf hn⟩
theorem cut_from (xs : List V) (k : Nat) : cutV xs (some (k : Int)) none = xs.drop k := by
  unfold cutV
  rw [HT.sIx_none, HT.sIx_nat]
  by_cases h : k ≤ xs.length
  · rw [Nat.min_eq_left h]
    exact List.take_of_length_le (by rw [List.length_drop]; exact Nat.le_refl _)
  · rw [Nat.min_eq_right (by omega), List.drop_of_length_le (by omega : xs.length ≤ k), List.drop_length, List.take_nil]
theorem cut_to (xs : List V) (k : Nat) : cutV xs none (some (k : Int)) = xs.take k := by
  unfold cutV
  rw [HT.sIx_none, HT.sIx_nat, List.drop_zero, Nat.sub_zero]
  by_cases h : k ≤ xs.length
  · rw [Nat.min_eq_left h]
  · rw [Nat.min_eq_right (by omega), List.take_length, List.take_of_length_le (by omega)]
/-! ## isinstance of the error that the suite holds -/
def rIsS (K : PySem.W.Frag) (C a : Addr) (cls : Value) (d : Option Addr) : List V → Hp → VK → Prop := fun xs H Q => ∃ (c : V) (cv : Value) (b : Bool), xs = [.ref a, c] ∧ cls = .ref C ∧ (∀ dd, d = some dd → ∃ fs, H dd = some (.xd fs)) ∧
  (∀ u, L2.RelV c u → u = cv) ∧ PySem.W.kitOne K (.ref C) cv = some b ∧ Q (.bl b) H
theorem call_isS {X : Cx} {a C : Addr} {oe : Obj} {cls : Value} {d : Option Addr} {pn : List (Addr × Obj)} (T : EcK X.K C) (hz : Zc cls d oe) (hf : ∃ vs, oe.data = .fields vs) : CallR (X.suite a ((a, oe) :: pn)) (.builtin "isinstance") (rIsS X.K C a cls d) := by
  intro pins s σ H xs us Q I r h
  obtain ⟨c, cv, b, rfl, ec, hd, hc, e, q⟩ := h
  obtain ⟨u1, u2, rfl, r1, r2⟩ := vals2 r
  cases r1
  have e2 := hc _ r2
  subst e2
  subst ec
  obtain ⟨vs, hv⟩ := hf
  have ho := (I.pin (a, oe) (List.mem_append_left _ List.mem_cons_self)).1
  have nc : PySem.W.notCls oe = true := by
    unfold PySem.W.notCls
    rw [hv] <;> rfl
  have J : ∃ od : Option Obj, PySem.W.InstAt s.heap a oe C od := by
    cases d with
    | none =>
      refine ⟨none, ho, hz.1, nc, ?_⟩
      rw [hz.2]
      trivial
    | some dd =>
      obtain ⟨fs, hx⟩ := hd dd rfl
      obtain ⟨mA, hns, hr⟩ := (show ObjOk X.prog X.w H s.heap dd (.xd fs) from I.hok dd _ hx)
      obtain ⟨od, hod, hl⟩ := lookIn_ns hns
      refine ⟨some od, ho, hz.1, nc, ?_⟩
      rw [hz.2]
      exact hod
  obtain ⟨od, J⟩ := J
  have hcl : (PySem.W.clsIn X.K C).isSome = true := by
    obtain ⟨cd, hcd, _⟩ := PySem.W.any_some T.hd
    rw [hcd]
    rfl
  exact PySem.W.kia_one (PySem.W.kitx_exc hcl T.ga T.gg T.ex T.cl T.gt T.tk T.ob) I.kIn J e (fun z => nomatch z) fun tk => ⟨.bl b, H, I.kept (t' := tk) fun _ _ z => z, rfl, q⟩
def Low (z : Str) : Prop := ∀ c ∈ z.cps.toList, c < 128
theorem lay_str {z : Str} (h : Low z) : PyData.canLay0 (.str z) = true := by
  rw [PyData.canLay0]
  show (z.cps.all fun c => decide (c < 0x110000)) = true
  rw [← Array.all_toList]
  exact List.all_eq_true.mpr fun c hc => decide_eq_true (Nat.lt_trans (h c hc) (by decide))
/-! ## the repr of plain texts is plain -/
theorem look_repr : ((List.range 128).all fun c => [34, 39].all fun q => (Builtin.Str.reprChar q c).all fun x => Nat.blt x 128) = true := by decide +kernel
theorem fold_low (q : Nat) (hq : q = 34 ∨ q = 39) : ∀ (l : List Nat) (acc : Array Nat), (∀ c ∈ l, c < 128) → (∀ x ∈ acc.toList, x < 128) → ∀ x ∈ (l.foldl (fun out c => out ++ (Builtin.Str.reprChar q c).toArray) acc).toList, x < 128
  | [], acc, _, h => h
  | c :: l, acc, hl, h => by
    refine fold_low q hq l _ (fun d hd => hl d (.tail _ hd)) fun x hx => ?_
    rw [Array.toList_append] at hx
    rcases List.mem_append.mp hx with z | z
    · exact h x z
    · have t := List.all_eq_true.mp look_repr c (List.mem_range.mpr (hl c List.mem_cons_self))
      have t2 := List.all_eq_true.mp t q (by rcases hq with e | e <;> rw [e] <;> simp)
      exact Nat.blt_eq.mp (List.all_eq_true.mp t2 x z)
theorem low_repr {z : Str} (h : Low z) : Low (reprText z) := by
  have hq : reprQuote z = 34 ∨ reprQuote z = 39 := by
    unfold reprQuote
    split
    · exact .inl rfl
    · exact .inr rfl
  have q9 : reprQuote z < 128 := by rcases hq with e | e <;> rw [e] <;> decide
  intro x hx
  unfold reprText at hx
  have hx' : x ∈ ((z.cps.foldl (fun out c => out ++ (Builtin.Str.reprChar (reprQuote z) c).toArray) #[reprQuote z]).push (reprQuote z)).toList := hx
  rw [Array.toList_push, ← Array.foldl_toList] at hx'
  rcases List.mem_append.mp hx' with y | y
  · exact fold_low _ hq z.cps.toList _ h (fun x hx => by
      rcases List.mem_cons.mp hx with e | e
      · rw [e]
        exact q9
      · cases e) x y
  · rw [List.mem_singleton.mp y]
    exact q9
theorem DeckAt.up {H : Hp} {d g : Addr} {m n : Int} (D : DeckAt H d g m) (h : m ≤ n) : DeckAt H d g n := by
  obtain ⟨⟨a, l, h1, h2, h3, h4, h5⟩, gr⟩ := D
  exact ⟨⟨a, l, h1, h2, h3, h4, by omega⟩, gr⟩
theorem DeckAt.new {H : Hp} {d g p : Addr} {m : Int} (D : DeckAt H d g m) (np : H p = none) : p ≠ d ∧ p ≠ g := by
  obtain ⟨⟨kvs, h1⟩, xs, h2⟩ := D.two
  exact ⟨(ne_of_none h1 np).symm, (ne_of_none h2 np).symm⟩
theorem DeckAt.put {H : Hp} {d g p : Addr} {m : Int} {o : HO} (D : DeckAt H d g m) (np : H p = none) : DeckAt (upd H p o) d g m := D.same (same_up np)
theorem But.put {d g p : Addr} {H H' : Hp} {o : HO} (B : But d g H H') (np : H' p = none) : But d g H (upd H' p o) := B.trans (but_same (same_up np))
end Vk
set_option Elab.async false
set_option linter.all false
set_option maxRecDepth 100000
set_option maxHeartbeats 4000000
namespace Vk
open PySem PySem.Spec PyProof.Rows L2 Vt PySem.Vx Vs1 ClX
/-! ## any data -/
def tyN : PyData → String
  | .none => "NoneType"
  | .bool _ => "bool"
  | .int _ => "int"
  | .str _ => "str"
  | .list _ => "list"
  | .tuple _ => "tuple"
  | .dict _ => "dict"
theorem tyX_dr {K : PySem.W.Frag} {H : Hp} {v : V} {d : PyData} (h : Dr K H v d) : TyX K H v (.type (tyN d)) := by
  cases h with
  | non => exact .base .non
  | bl b => exact .base (.bl b)
  | int i => exact .base (.int i)
  | str x => exact .base (.str x)
  | lst ns hs ha =>
    rcases hs with (h | ⟨o, h⟩) | ⟨o, its, n, h, hc, _⟩
    · exact .base (.lst h)
    · exact .base (.frz h)
    · exact .kList h hc
  | tup hs ha => exact tyT hs
  | dct h ha => exact .base (.dK h)
def isNum : PyData → Bool
  | .int _ => true
  | _ => false
def isPl (d : PyData) (n : Int) : Bool := match d with
  | .int i => decide (0 ≤ i) && decide (i < n)
  | _ => false
def isLet : PyData → Bool
  | .str z => (ltR z).isSome
  | _ => false
def isMv (d : PyData) (n : Int) : Bool := match d with
  | .tuple [a, b, c] => isPl a n && (isLet b && isPl c n)
  | _ => false
/-! how much there is in it -/
mutual
def wt : PyData → Nat
  | .str z => z.length + 1
  | .list xs => wtAll xs + 1
  | .tuple xs => wtAll xs + 1
  | .dict _ => 2
  | .none => 1
  | .bool _ => 1
  | .int _ => 1
def wtAll : List PyData → Nat
  | [] => 0
  | x :: xs => wt x + wtAll xs
end
theorem wt_pos : ∀ d : PyData, 1 ≤ wt d
  | .str z => Nat.le_add_left _ _
  | .list xs => Nat.le_add_left _ _
  | .tuple xs => Nat.le_add_left _ _
  | .dict _ => (by decide : 1 ≤ 2)
  | .none => Nat.le_refl _
  | .bool _ => Nat.le_refl _
  | .int _ => Nat.le_refl _
theorem wtAll_app : ∀ (a b : List PyData), wtAll (a ++ b) = wtAll a + wtAll b
  | [], b => by simp [wtAll]
  | x :: a, b => by
    rw [List.cons_append, wtAll, wtAll, wtAll_app a b]
    omega
theorem wtAll_len : ∀ (a : List PyData), a.length ≤ wtAll a
  | [] => Nat.le_refl _
  | x :: a => by
    have := wtAll_len a
    have := wt_pos x
    rw [List.length_cons, wtAll]
    omega
theorem wt_mem : ∀ {a : List PyData} {d : PyData}, d ∈ a → wt d ≤ wtAll a
  | x :: a, d, h => by
    rw [wtAll]
    rcases List.mem_cons.mp h with e | h
    · rw [e]
      omega
    · have := wt_mem h
      omega
/-! plain data: small integers, plain signs, no dict but an empty one -/
mutual
def plainD : PyData → Bool
  | .str z => z.cps.toList.all fun c => decide (c < 128)
  | .int i => decide (i.natAbs < 10 ^ 41)
  | .list xs => plainAll xs
  | .tuple xs => plainAll xs
  | .dict kvs => kvs.isEmpty
  | .none => true
  | .bool _ => true
def plainAll : List PyData → Bool
  | [] => true
  | x :: xs => plainD x && plainAll xs
end
theorem plainAll_iff : ∀ {xs : List PyData}, plainAll xs = true ↔ ∀ d ∈ xs, plainD d = true
  | [] => by simp [plainAll]
  | x :: xs => by
    rw [plainAll, Bool.and_eq_true, plainAll_iff]
    simp
theorem log_of {i : Int} (h : i.natAbs < 10 ^ 41) : i.natAbs.log2 < 1920 := by
  by_cases h0 : i.natAbs = 0
  · rw [h0]
    decide
  · exact Nat.lt_of_lt_of_le ((Nat.log2_lt h0).mpr (Nat.lt_of_lt_of_le h (by decide : 10 ^ 41 ≤ 2 ^ 137))) (by decide)
theorem int_len {i : Int} (h : i.natAbs < 10 ^ 41) : (PyData.shown (.int i)).length ≤ 140 := by
  have h137 : i.natAbs < 2 ^ 137 := Nat.lt_of_lt_of_le h (by decide)
  have cnv : ∀ s : String, (Str.ofString s).length = s.length := fun s => by
    rw [Str.ofString_eq_toList]
    simp only [Str.length, List.size_toArray, List.length_map]
    exact String.length_toList ..
  show (Str.ofString (toString i)).length ≤ 140
  rw [cnv]
  cases i with
  | ofNat n =>
    have e : toString (Int.ofNat n) = Nat.repr n := rfl
    rw [e]
    exact Nat.le_trans (nat_repr_length_le (k := 137) (by decide) h137) (by decide)
  | negSucc n =>
    have e : toString (Int.negSucc n) = "-" ++ Nat.repr (n + 1) := rfl
    rw [e, String.length_append]
    have := nat_repr_length_le (k := 137) (by decide) (show n + 1 < 2 ^ 137 from h137)
    show 1 + _ ≤ 140
    omega
mutual
theorem shown_wt : ∀ (d : PyData), plainD d = true → d.shown.length + 2 ≤ 150 * wt d
  | .none, _ => by decide
  | .bool b, _ => by cases b <;> decide
  | .int i, h => by
    have := int_len (of_decide_eq_true h)
    show _ + 2 ≤ 150 * 1
    omega
  | .str z, h => by
    have := StrLaws.reprText_len z fun c hc => Nat.lt_trans (of_decide_eq_true (List.all_eq_true.mp h c hc)) (by decide)
    show (reprText z).length + 2 ≤ 150 * (z.length + 1)
    omega
  | .list xs, h => by
    have a := listText_le (PyData.shownAll xs)
    have b := piled_wt xs h
    show (listText (PyData.shownAll xs)).length + 2 ≤ 150 * (wtAll xs + 1)
    omega
  | .tuple xs, h => by
    have a := tupleText_le (PyData.shownAll xs)
    have b := piled_wt xs h
    show (tupleText (PyData.shownAll xs)).length + 2 ≤ 150 * (wtAll xs + 1)
    omega
  | .dict kvs, h => by
    cases kvs with
    | nil => decide
    | cons q r => cases h
theorem piled_wt : ∀ (xs : List PyData), plainAll xs = true → piled (PyData.shownAll xs) ≤ 150 * wtAll xs
  | [], _ => Nat.le_refl _
  | x :: xs, h => by
    rw [plainAll, Bool.and_eq_true] at h
    have a := shown_wt x h.1
    have b := piled_wt xs h.2
    rw [PyData.shownAll, piled_cons, wtAll]
    omega
end
mutual
theorem show_plain : ∀ (d : PyData), plainD d = true → d.showable = true
  | .none, _ => rfl
  | .bool b, _ => rfl
  | .int i, h => decide_eq_true (log_of (of_decide_eq_true h))
  | .str z, _ => rfl
  | .list xs, h => shows_plain xs h
  | .tuple xs, h => shows_plain xs h
  | .dict kvs, h => by
    cases kvs with
    | nil => rfl
    | cons q r => cases h
theorem shows_plain : ∀ (xs : List PyData), plainAll xs = true → PyData.showableAll xs = true
  | [], _ => rfl
  | x :: xs, h => by
    rw [plainAll, Bool.and_eq_true] at h
    rw [PyData.showableAll, show_plain x h.1, shows_plain xs h.2] <;> rfl
end
/-! ## lists of data -/
theorem DrAll.get {K : PySem.W.Frag} {H : Hp} : ∀ {vs : List V} {ds : List PyData}, DrAll K H vs ds → ∀ {i : Nat} {v : V}, vs[i]? = some v → ∃ d, ds[i]? = some d ∧ Dr K H v d
  | _, _, .nil, i, v, h => by cases h
  | _, _, .cons h1 h2, 0, v, h => by
    cases h
    exact ⟨_, rfl, h1⟩
  | _, _, .cons h1 h2, i + 1, v, h => h2.get (i := i) h
theorem DrAll.at {K : PySem.W.Frag} {H : Hp} : ∀ {vs : List V} {ds : List PyData}, DrAll K H vs ds → ∀ {i : Nat} {d : PyData}, ds[i]? = some d → ∃ v, vs[i]? = some v ∧ Dr K H v d
  | _, _, .nil, i, v, h => by cases h
  | _, _, .cons h1 h2, 0, v, h => by
    cases h
    exact ⟨_, rfl, h1⟩
  | _, _, .cons h1 h2, i + 1, v, h => h2.at (i := i) h
theorem DrAll.app {K : PySem.W.Frag} {H : Hp} : ∀ {vs : List V} {ds : List PyData}, DrAll K H vs ds → ∀ {ws : List V} {es : List PyData}, DrAll K H ws es → DrAll K H (vs ++ ws) (ds ++ es)
  | _, _, .nil, _, _, h => h
  | _, _, .cons h1 h2, _, _, h => .cons h1 (h2.app h)
theorem DrAll.take {K : PySem.W.Frag} {H : Hp} : ∀ {vs : List V} {ds : List PyData}, DrAll K H vs ds → ∀ (k : Nat), DrAll K H (vs.take k) (ds.take k)
  | _, _, .nil, k => by rw [List.take_nil, List.take_nil]; exact .nil
  | _, _, .cons h1 h2, 0 => .nil
  | _, _, .cons h1 h2, k + 1 => .cons h1 (h2.take k)
theorem DrAll.drop {K : PySem.W.Frag} {H : Hp} : ∀ {vs : List V} {ds : List PyData}, DrAll K H vs ds → ∀ (k : Nat), DrAll K H (vs.drop k) (ds.drop k)
  | _, _, .nil, k => by rw [List.drop_nil, List.drop_nil]; exact .nil
  | _, _, .cons h1 h2, 0 => .cons h1 h2
  | _, _, .cons h1 h2, k + 1 => h2.drop k
theorem DrAll.rev {K : PySem.W.Frag} {H : Hp} : ∀ {vs : List V} {ds : List PyData}, DrAll K H vs ds → DrAll K H vs.reverse ds.reverse
  | _, _, .nil => .nil
  | _, _, .cons h1 h2 => by
    rw [List.reverse_cons, List.reverse_cons]
    exact (h2.rev).app (.cons h1 .nil)
theorem dr_tup {K : PySem.W.Frag} {H : Hp} {v : V} {ds : List PyData} (h : Dr K H v (.tuple ds)) : ∃ a xs, v = .ref a ∧ SqT K H a xs ∧ DrAll K H xs ds := by
  cases h with
  | tup hs ha => exact ⟨_, _, rfl, hs, ha⟩
theorem dr_int {K : PySem.W.Frag} {H : Hp} {v : V} {i : Int} (h : Dr K H v (.int i)) : v = .int i := by
  cases h
  rfl
theorem dr_str {K : PySem.W.Frag} {H : Hp} {v : V} {z : Str} (h : Dr K H v (.str z)) : v = .str z := by
  cases h
  rfl
/-! ## moves among data -/
theorem isMv_of {d : PyData} {n : Nat} (h : isMv d (n : Int) = true) : ∃ m, OkMv n m ∧ d = mvD m := by
  unfold isMv at h
  split at h
  · rename_i a b c
    rw [Bool.and_eq_true, Bool.and_eq_true] at h
    obtain ⟨h1, h2, h3⟩ := h
    unfold isPl at h1 h3
    split at h1
    · rename_i i
      split at h3
      · rename_i j
        unfold isLet at h2
        split at h2
        · rename_i z
          obtain ⟨x, hx⟩ := Option.isSome_iff_exists.mp h2
          obtain ⟨e, c1, c2⟩ := ltR_some hx
          simp only [Bool.and_eq_true, decide_eq_true_eq] at h1 h3
          refine ⟨⟨i.toNat, x, j.toNat⟩, ⟨by show i.toNat < n; omega, by show j.toNat < n; omega, c1, c2⟩, ?_⟩
          have e1 : ((i.toNat : Nat) : Int) = i := by omega
          have e2 : ((j.toNat : Nat) : Int) = j := by omega
          show _ = PyData.tuple [.int ((i.toNat : Nat) : Int), .str (sg x), .int ((j.toNat : Nat) : Int)]
          rw [e1, e2, e]
        · cases h2
      · cases h3
    · cases h1
  · cases h
theorem isMv_mv {n : Nat} {m : Mv} (ok : OkMv n m) : isMv (mvD m) (n : Int) = true := by
  obtain ⟨h1, h2, h3, h4⟩ := ok
  show ((decide ((0 : Int) ≤ (m.s : Int)) && decide ((m.s : Int) < (n : Int))) && ((ltR (sg m.c)).isSome && (decide ((0 : Int) ≤ (m.t : Int)) && decide ((m.t : Int) < (n : Int))))) = true
  rw [ltR_sg, decide_eq_true h3, decide_eq_true h4, decide_eq_true (by omega : (0 : Int) ≤ (m.s : Int)), decide_eq_true (by omega : (m.s : Int) < (n : Int)), decide_eq_true (by omega : (0 : Int) ≤ (m.t : Int)), decide_eq_true (by omega : (m.t : Int) < (n : Int))] <;> rfl
theorem moves_of : ∀ {ds : List PyData} {n : Nat}, (∀ d ∈ ds, isMv d (n : Int) = true) → ∃ ms : List Mv, ds = ms.map mvD ∧ ∀ m ∈ ms, OkMv n m
  | [], n, _ => ⟨[], rfl, fun _ h => nomatch h⟩
  | d :: ds, n, h => by
    obtain ⟨m, ok, e⟩ := isMv_of (h d List.mem_cons_self)
    obtain ⟨ms, e2, ok2⟩ := moves_of fun x hx => h x (.tail _ hx)
    refine ⟨m :: ms, by rw [e, e2] <;> rfl, fun x hx => ?_⟩
    rcases List.mem_cons.mp hx with z | z
    · rw [z]
      exact ok
    · exact ok2 x z
theorem dr_mv {K : PySem.W.Frag} {H : Hp} {v : V} {m : Mv} (h : Dr K H v (mvD m)) : ∃ a, v = .ref a ∧ SqT K H a (mvV m) := by
  obtain ⟨a, xs, rfl, hs, ha⟩ := dr_tup h
  cases ha with
  | cons h1 ha =>
    cases ha with
    | cons h2 ha =>
      cases ha with
      | cons h3 ha =>
        cases ha with
        | nil =>
          rw [dr_int h1, dr_str h2, dr_int h3] at hs
          exact ⟨a, rfl, hs⟩
theorem mv_dr {K : PySem.W.Frag} {H : Hp} {a : Addr} {m : Mv} (h : SqT K H a (mvV m)) : Dr K H (.ref a) (mvD m) := .tup h (.cons (.int _) (.cons (.str _) (.cons (.int _) .nil)))
theorem dr_mvs {K : PySem.W.Frag} {H : Hp} : ∀ {xs : List V} {ms : List Mv}, DrAll K H xs (ms.map mvD) → ∃ qs : List (Addr × Mv), xs = (qs.map fun p => V.ref p.1) ∧ qs.map (·.2) = ms ∧ ∀ p ∈ qs, SqT K H p.1 (mvV p.2)
  | xs, [], h => by
    cases h
    exact ⟨[], rfl, rfl, fun _ h => nomatch h⟩
  | xs, m :: ms, h => by
    cases h with
    | cons h1 h2 =>
      obtain ⟨a, rfl, hs⟩ := dr_mv h1
      obtain ⟨qs, rfl, e2, hq⟩ := dr_mvs h2
      refine ⟨(a, m) :: qs, rfl, by rw [List.map_cons, e2], fun p hp => ?_⟩
      rcases List.mem_cons.mp hp with z | z
      · rw [z]
        exact hs
      · exact hq p z
theorem mvs_dr {K : PySem.W.Frag} {H : Hp} : ∀ {qs : List (Addr × Mv)}, (∀ p ∈ qs, SqT K H p.1 (mvV p.2)) → DrAll K H (qs.map fun p => V.ref p.1) (qs.map fun p => mvD p.2)
  | [], _ => .nil
  | p :: qs, h => .cons (mv_dr (h p List.mem_cons_self)) (mvs_dr fun q hq => h q (.tail _ hq))
end Vk
set_option Elab.async false
set_option linter.all false
set_option maxRecDepth 100000
set_option maxHeartbeats 4000000
namespace Vk
open PySem PySem.Spec PyProof.Rows L2 Vt PySem.Vx Vs1 ClX
def kitI : PyData → Bool
  | .int _ => true
  | .bool _ => true
  | _ => false
def kitBo : PyData → Bool
  | .bool _ => true
  | _ => false
def kitS : PyData → Bool
  | .str _ => true
  | _ => false
def kitT : PyData → Bool
  | .tuple _ => true
  | _ => false
theorem kit_int {K : PySem.W.Frag} (d : PyData) : PySem.W.kitOne K (.type (tyN d)) (.type "int") = some (kitI d) := by
  cases d with
  | none => exact kit_ty (show kitB "NoneType" "int" = some false by decide +kernel)
  | bool b => exact kit_ty (show kitB "bool" "int" = some true by decide +kernel)
  | int i => exact kit_ty (show kitB "int" "int" = some true by decide +kernel)
  | str z => exact kit_ty (show kitB "str" "int" = some false by decide +kernel)
  | list xs => exact kit_ty (show kitB "list" "int" = some false by decide +kernel)
  | tuple xs => exact kit_ty (show kitB "tuple" "int" = some false by decide +kernel)
  | dict kvs => exact kit_ty (show kitB "dict" "int" = some false by decide +kernel)
theorem kit_bool {K : PySem.W.Frag} (d : PyData) : PySem.W.kitOne K (.type (tyN d)) (.type "bool") = some (kitBo d) := by
  cases d with
  | none => exact kit_ty (show kitB "NoneType" "bool" = some false by decide +kernel)
  | bool b => exact kit_ty (show kitB "bool" "bool" = some true by decide +kernel)
  | int i => exact kit_ty (show kitB "int" "bool" = some false by decide +kernel)
  | str z => exact kit_ty (show kitB "str" "bool" = some false by decide +kernel)
  | list xs => exact kit_ty (show kitB "list" "bool" = some false by decide +kernel)
  | tuple xs => exact kit_ty (show kitB "tuple" "bool" = some false by decide +kernel)
  | dict kvs => exact kit_ty (show kitB "dict" "bool" = some false by decide +kernel)
theorem kit_str {K : PySem.W.Frag} (d : PyData) : PySem.W.kitOne K (.type (tyN d)) (.type "str") = some (kitS d) := by
  cases d with
  | none => exact kit_ty (show kitB "NoneType" "str" = some false by decide +kernel)
  | bool b => exact kit_ty (show kitB "bool" "str" = some false by decide +kernel)
  | int i => exact kit_ty (show kitB "int" "str" = some false by decide +kernel)
  | str z => exact kit_ty (show kitB "str" "str" = some true by decide +kernel)
  | list xs => exact kit_ty (show kitB "list" "str" = some false by decide +kernel)
  | tuple xs => exact kit_ty (show kitB "tuple" "str" = some false by decide +kernel)
  | dict kvs => exact kit_ty (show kitB "dict" "str" = some false by decide +kernel)
theorem kit_tup {K : PySem.W.Frag} (d : PyData) : PySem.W.kitOne K (.type (tyN d)) (.type "tuple") = some (kitT d) := by
  cases d with
  | none => exact kit_ty (show kitB "NoneType" "tuple" = some false by decide +kernel)
  | bool b => exact kit_ty (show kitB "bool" "tuple" = some false by decide +kernel)
  | int i => exact kit_ty (show kitB "int" "tuple" = some false by decide +kernel)
  | str z => exact kit_ty (show kitB "str" "tuple" = some false by decide +kernel)
  | list xs => exact kit_ty (show kitB "list" "tuple" = some false by decide +kernel)
  | tuple xs => exact kit_ty (show kitB "tuple" "tuple" = some true by decide +kernel)
  | dict kvs => exact kit_ty (show kitB "dict" "tuple" = some false by decide +kernel)
theorem num_kit (d : PyData) : isNum d = (kitI d && !kitBo d) := by cases d <;> rfl
theorem isNum_int {d : PyData} (h : isNum d = true) : ∃ i, d = .int i := by
  cases d with
  | int i => exact ⟨i, rfl⟩
  | _ => cases h
section
variable {P : Program} {w : World} {K : PySem.W.Frag} {mg : Str → Option Value} {base : Heap}
def spNumD (K : PySem.W.Frag) : Sp := fun vs H Q _ => ∃ (v : V) (d : PyData), vs = [v] ∧ Dr K H v d ∧ Q (.bl (isNum d)) H
theorem ok_numD {f : Addr} {fd : FuncData} (F : Fun K "is_number" "is_number" sNum f fd) (T : Txt8 K mg) : FnOk P w K mg base CX0 1 f fd ["thing"] (spNumD K) := by
  refine F.ok scN (fun vs H Q E h => ?_) (fun cdv A outer s H vs Q E hr h => ?_)
  · obtain ⟨v, d, rfl, _⟩ := h
    rfl
  · obtain ⟨v, d, rfl, hd, k⟩ := h
    refine ⟨_, (pss_one (ps_ret (pe_and (pe_callB call_isi (by rfl) T.isi (by decide +kernel) (pa_cons (pv 0) (pa_cons (pe_bltn (v := .ty "int") (by rfl) T.int (by decide +kernel) rfl) pa_nil))) (pe_one (pe_not (pe_callB call_isi (by rfl) T.isi (by decide +kernel) (pa_cons (pv 0) (pa_cons (pe_bltn (v := .ty "bool") (by rfl) T.bool (by decide +kernel) rfl) pa_nil)))))))), ?_⟩
    rw [num_kit] at k
    refine ⟨_, rfl, _, _, _, _, kitI d, rfl, .ty "int", tyX_dr hd, kit_int d, _, rfl, ?_⟩
    cases hI : kitI d with
    | false =>
      rw [hI] at k
      refine iteF ?_
      exact k
    | true =>
      rw [hI] at k
      refine iteT ?_
      refine ⟨_, rfl, _, _, _, _, kitBo d, rfl, .ty "bool", tyX_dr hd, kit_bool d, _, rfl, ?_⟩
      exact k
def spLetD (K : PySem.W.Frag) : Sp := fun vs H Q _ => ∃ (v : V) (d : PyData), vs = [v] ∧ Dr K H v d ∧ wt d ≤ 1000000 ∧ Q (.bl (isLet d)) H
theorem ok_letD {f : Addr} {fd : FuncData} (F : Fun K "is_letter" "is_letter" sLet f fd) (T : Txt8 K mg) : FnOk P w K mg base CX0 1 f fd ["thing"] (spLetD K) := by
  refine F.ok scE (fun vs H Q E h => ?_) (fun cdv A outer s H vs Q E hr h => ?_)
  · obtain ⟨v, d, rfl, _⟩ := h
    rfl
  · obtain ⟨v, d, rfl, hd, hw, k⟩ := h
    refine ⟨_, (pss_one (ps_ret (pe_and (pe_callB call_isi (by rfl) T.isi (by decide +kernel) (pa_cons (pv 0) (pa_cons (pe_bltn (v := .ty "str") (by rfl) T.str (by decide +kernel) rfl) pa_nil))) (pe_and (pe_cmpR op_eq (pe_callB call_len_str (by rfl) T.len PySem.boot_len (pa_cons (pv 0) pa_nil)) pe_int (nomark _)) (pe_one (pe_chain op_le_str op_le_str pe_str (pv 0) pe_str)))))), ?_⟩
    refine ⟨_, rfl, _, _, _, _, kitS d, rfl, .ty "str", tyX_dr hd, kit_str d, _, rfl, ?_⟩
    cases d with
    | str z =>
      obtain rfl := dr_str hd
      have hz : z.length ≤ sizeLine := by
        have : z.length + 1 ≤ 1000000 := hw
        rw [sizeLine_eq]
        omega
      refine iteT ?_
      refine ⟨_, rfl, _, rfl, hz, rfl, _, rfl, ?_⟩
      have k : Q (.bl (ltR z).isSome) H := k
      by_cases l1 : z.length = 1
      · rw [decide_eq_true (show V.int (z.length : Int) = V.int 1 by rw [l1] <;> rfl)]
        refine iteT ?_
        obtain ⟨c, rfl⟩ := str_one l1
        rw [ltR_sg] at k
        refine ⟨_, rfl, _, _, rfl, rfl, _, rfl, ?_⟩
        have e1 : (!decide ((sg c).cps.toList < ("a" : Str).cps.toList)) = decide (97 ≤ c) := lt_one
        by_cases h1 : 97 ≤ c
        · rw [e1, decide_eq_true h1]
          refine iteT ?_
          refine ⟨_, _, rfl, rfl, ?_⟩
          have e2 : (!decide (("z" : Str).cps.toList < (sg c).cps.toList)) = decide (c ≤ 122) := lt_one
          rw [e2]
          rw [decide_eq_true h1] at k
          exact k
        · rw [e1, decide_eq_false h1]
          refine iteF ?_
          rw [decide_eq_false h1] at k
          exact k
      · rw [decide_eq_false (show ¬ V.int (z.length : Int) = V.int 1 from fun e => l1 (Int.ofNat.inj (V.int.inj e)))]
        refine iteF ?_
        rw [ltR_len l1] at k
        exact k
    | none => exact iteF k
    | bool b => exact iteF k
    | int i => exact iteF k
    | list xs => exact iteF k
    | tuple xs => exact iteF k
    | dict kvs => exact iteF k
def spStateD (K : PySem.W.Frag) : Sp := fun vs H Q _ => ∃ (v : V) (d : PyData) (n : Int), vs = [v, .int n] ∧ Dr K H v d ∧ Q (.bl (isPl d n)) H
theorem isPl_no {d : PyData} {n : Int} (h : isNum d = false) : isPl d n = false := by
  cases d with
  | int i => cases h
  | _ => rfl
theorem ok_stateD {f fN : Addr} {fd fdN : FuncData} (F : Fun K "is_state" "is_state" sState f fd) (T : Txt8 K mg) (FN : Fun K "is_number" "is_number" sNum fN fdN) (gN : mg "is_number" = some (.ref fN)) (bN : Binds K fdN ["thing"] []) : FnOk P w K mg base CX0 2 f fd ["thing", "size"] (spStateD K) := by
  have GN : FnOk P w K mg base CX0 1 fN fdN ["thing"] (spNumD K) := ok_numD FN T
  refine F.ok scS (fun vs H Q E h => ?_) (fun cdv A outer s H vs Q E hr h => ?_)
  · obtain ⟨v, d, n, rfl, _⟩ := h
    rfl
  · obtain ⟨v, d, n, rfl, hd, k⟩ := h
    refine ⟨_, (pss_one (ps_ret (pe_and (pe_call GN hr rfl gN FN.kp bN .nil pass0 (pa_cons (pv 0) pa_nil)) (pe_one (pe_chain op_le op_lt pe_int (pv 0) (pv 1)))))), ?_⟩
    refine ⟨_, rfl, v, d, rfl, hd, _, rfl, ?_⟩
    cases hn : isNum d with
    | false =>
      rw [isPl_no hn] at k
      refine iteF ?_
      exact k
    | true =>
      obtain ⟨i, rfl⟩ := isNum_int hn
      obtain rfl := dr_int hd
      have k : Q (.bl (decide (0 ≤ i) && decide (i < n))) H := k
      refine iteT ?_
      refine ⟨_, rfl, _, _, rfl, rfl, _, rfl, ?_⟩
      by_cases h1 : 0 ≤ i
      · rw [decide_eq_true h1]
        refine iteT ?_
        refine ⟨_, rfl, _, _, rfl, rfl, ?_⟩
        rw [decide_eq_true h1] at k
        exact k
      · rw [decide_eq_false h1]
        refine iteF ?_
        rw [decide_eq_false h1] at k
        exact k
def spMoveD (K : PySem.W.Frag) : Sp := fun vs H Q _ => ∃ (v : V) (d : PyData) (n : Int), vs = [v, .int n] ∧ Dr K H v d ∧ wt d ≤ 1000000 ∧ Q (.bl (isMv d n)) H
theorem isMv_len {xs : List PyData} {n : Int} (h : xs.length ≠ 3) : isMv (.tuple xs) n = false := by
  rcases xs with _ | ⟨a, _ | ⟨b, _ | ⟨c, _ | ⟨d, r⟩⟩⟩⟩
  · rfl
  · rfl
  · rfl
  · exact absurd rfl h
  · rfl
theorem ok_moveD {f fN fS fE : Addr} {fd fdN fdS fdE : FuncData} (F : Fun K "is_move" "is_move" sMove f fd) (T : Txt8 K mg) (FN : Fun K "is_number" "is_number" sNum fN fdN) (gN : mg "is_number" = some (.ref fN)) (bN : Binds K fdN ["thing"] [])
    (FS : Fun K "is_state" "is_state" sState fS fdS) (gS : mg "is_state" = some (.ref fS)) (bS : Binds K fdS ["thing", "size"] []) (FE : Fun K "is_letter" "is_letter" sLet fE fdE) (gE : mg "is_letter" = some (.ref fE)) (bE : Binds K fdE ["thing"] []) :
    FnOk P w K mg base CX0 3 f fd ["thing", "size"] (spMoveD K) := by
  have GS : FnOk P w K mg base CX0 2 fS fdS ["thing", "size"] (spStateD K) := ok_stateD FS T FN gN bN
  have GE : FnOk P w K mg base CX0 2 fE fdE ["thing"] (spLetD K) := (ok_letD FE T).mono (by decide)
  refine F.ok scM (fun vs H Q E h => ?_) (fun cdv A outer s H vs Q E hr h => ?_)
  · obtain ⟨v, d, n, rfl, _⟩ := h
    rfl
  · obtain ⟨v, d, n, rfl, hd, hw, k⟩ := h
    refine ⟨_, (pss_cons (ps_if (PW.pt (pw_or (pt_not (pt_val (pe_callB call_isi (by rfl) T.isi (by decide +kernel) (pa_cons (pv 0) (pa_cons (pe_bltn (v := .ty "tuple") (by rfl) T.tup (by decide +kernel) rfl) pa_nil))))) (pw_or1 (pt_cmpR op_ne (pe_callB call_len (by rfl) T.len PySem.boot_len (pa_cons (pv 0) pa_nil)) pe_int (nomark _))))) (pss_one (ps_ret pe_bl)) pss_nil)
        (pss_one (ps_ret (pe_and (pe_call GS hr rfl gS FS.kp bS .nil pass0 (pa_cons (pe_ix ix_tup (pv 0) pe_int (fun _ _ => rfl)) (pa_cons (pv 1) pa_nil))) (pe_and (pe_call GE hr rfl gE FE.kp bE .nil pass0 (pa_cons (pe_ix ix_tup (pv 0) pe_int (fun _ _ => rfl)) pa_nil)) (pe_one (pe_call GS hr rfl gS FS.kp bS .nil pass0 (pa_cons (pe_ix ix_tup (pv 0) pe_int (fun _ _ => rfl)) (pa_cons (pv 1) pa_nil))))))))), ?_⟩
    refine ⟨_, rfl, _, _, _, _, kitT d, rfl, .ty "tuple", tyX_dr hd, kit_tup d, _, rfl, ?_⟩
    cases d with
    | tuple ds =>
      refine iteF ?_
      obtain ⟨a, xs, rfl, hs, ha⟩ := dr_tup hd
      have lx := ha.length
      refine ⟨_, rfl, _, xs.length, rfl, .inr ⟨_, hs, rfl⟩, rfl, _, rfl, ?_⟩
      by_cases l3 : ds.length = 3
      rotate_left
      · have e : (!decide (V.int (xs.length : Int) = V.int 3)) = true := by
          rw [decide_eq_false (show ¬ V.int (xs.length : Int) = V.int 3 from fun e => l3 (by have := V.int.inj e; omega))] <;> rfl
        rw [e]
        refine iteT ?_
        rw [isMv_len l3] at k
        exact k
      have e : (!decide (V.int (xs.length : Int) = V.int 3)) = false := by
        rw [decide_eq_true (show V.int (xs.length : Int) = V.int 3 by rw [lx, l3] <;> rfl)] <;> rfl
      rw [e]
      refine iteF ?_
      rcases ds with _ | ⟨d0, _ | ⟨d1, _ | ⟨d2, _ | ⟨d, r⟩⟩⟩⟩
      · cases l3
      · cases l3
      · cases l3
      · cases ha with
        | cons h0 ha =>
          cases ha with
          | cons h1 ha =>
            cases ha with
            | cons h2 ha =>
              cases ha with
              | nil =>
                have k : Q (.bl (isPl d0 n && (isLet d1 && isPl d2 n))) H := k
                have w1 : wt d1 ≤ 1000000 := by
                  have e : wt (.tuple [d0, d1, d2]) = (wt d0 + (wt d1 + (wt d2 + 0))) + 1 := rfl
                  omega
                refine ⟨_, rfl, a, _, _, _, rfl, rfl, hs, rfl, _, rfl, _, d0, n, rfl, h0, _, rfl, ?_⟩
                cases b0 : isPl d0 n with
                | false =>
                  rw [b0] at k
                  exact iteF k
                | true =>
                  rw [b0] at k
                  refine iteT ?_
                  refine ⟨_, rfl, a, _, _, _, rfl, rfl, hs, rfl, _, d1, rfl, h1, w1, _, rfl, ?_⟩
                  cases b1 : isLet d1 with
                  | false =>
                    rw [b1] at k
                    exact iteF k
                  | true =>
                    rw [b1] at k
                    refine iteT ?_
                    exact ⟨_, rfl, a, _, _, _, rfl, rfl, hs, rfl, _, rfl, _, d2, n, rfl, h2, k⟩
      · exact absurd l3 (by simp)
    | none => exact iteT k
    | bool b => exact iteT k
    | int i => exact iteT k
    | str z => exact iteT k
    | list xs => exact iteT k
    | dict kvs => exact iteT k
end
end Vk
set_option Elab.async false
set_option linter.all false
set_option maxRecDepth 100000
set_option maxHeartbeats 4000000
namespace Vk
open PySem PySem.Spec PyProof.Rows L2 Vt PySem.Vx Vs1 ClX
/-- the place of the first move with the letter and the end of one before it -/
def ClashG (e : Int) (ms : List Mv) (m : Mv) : Prop := ∃ j, ms[j]? = some m ∧ ((ms.take j).map (eK e)).Nodup ∧ eK e m ∈ (ms.take j).map (eK e)
section
variable {P : Program} {w : World} {K : PySem.W.Frag} {mg : Str → Option Value} {base : Heap}
def spEndsG (K : PySem.W.Frag) (C : Addr) : Sp := fun vs H _ E => ∃ (e : Int) (l : Addr) (ms : List (Addr × Mv)) (j : Nat) (p : Addr × Mv), vs = [.ref l, .int e] ∧ (e = 0 ∨ e = 2) ∧ MvsAt K H l ms ∧ ms.length ≤ 3999 ∧ ms[j]? = some p ∧ ((ms.take j).map fun r => eK e r.2).Nodup ∧ eK e p.2 ∈ ((ms.take j).map fun r => eK e r.2) ∧ OutB C (.ref p.1) H E
theorem ok_endsG {f C fI : Addr} {fd : FuncData} (F : Fun K "check_ends" "check_ends" sEnds f fd) (T : Txt8 K mg) (TK : EcK K C) (TU : EcI K C fI "part") (gE : mg "BadMachine" = some (.ref C)) : FnOk P w K mg base (L2.CX P w) 2 f fd ["moves", "end"] (spEndsG K C) := by
  refine F.okX scX (fun vs H Q E h => ?_) (fun cdv A outer s H vs Q E hr h => ?_)
  · obtain ⟨e, l, ms, j, p, rfl, _⟩ := h
    rfl
  · obtain ⟨e, l, ms, j, pj, rfl, he, hM, few, hj, nd, inn, k⟩ := h
    have jl : j < ms.length := (List.getElem?_eq_some_iff.mp hj).1
    refine ⟨_, (pss_cons (ps_set (i := 2) scX.nd rfl (.inl rfl) (pe_callTy0 cr_set0M (by rfl) T.set (by decide +kernel)))
        (pss_one (ps_for (passes_of rfl) rfl (pi_tup (pv 0)) (pg_name (i := 3) scX.nd rfl (.inl rfl)) (pss_cons (ps_if (pt_cmpR (op_inM hr.units) (pe_tup (pa_cons (pe_ix ix_tup (pv 3) pe_int (fun _ _ => rfl)) (pa_cons (pe_ix ix_tup (pv 3) (pv 1) (fun _ _ => rfl)) pa_nil))) (pv 2) (by rfl)) (pss_one (ps_raise rfl (takes_of rfl rfl rfl rfl) (pmk_E TK TU gE hr (pa_cons (pv 3) pa_nil)))) pss_nil)
        (pss_one (ps_expr (pe_addM hr.units (pv 2) (pa_cons (pe_tup (pa_cons (pe_ix ix_tup (pv 3) pe_int (fun _ _ => rfl)) (pa_cons (pe_ix ix_tup (pv 3) (pv 1) (fun _ _ => rfl)) pa_nil))) pa_nil)))))))), ?_⟩
    refine ⟨rfl, fun S nS => ?_⟩
    have s0 := same_up (o := SetMO P w S []) nS
    refine ⟨_, rfl, l, rfl, ⟨_, same_seqT s0 hM.tp⟩, ?_⟩
    refine for_tup (K := K) (a := l) (xs := ms.map fun p => V.ref p.1) (fun i σ H' => ∃ (v : Option V) (L : List (Addr × List Key)), i ≤ j ∧ σ = [some (.ref l), some (.int e), some (.ref S), v] ∧ Same H H' ∧ H' S = some (SetMO P w S L) ∧ (∀ p ∈ L, H' p.1 = some (.tup (p.2.map kV))) ∧
      (∀ x, x ∈ L.map (·.2) ↔ x ∈ (ms.take i).map fun r => eK e r.2) ∧ L.length ≤ i) ⟨none, [], Nat.zero_le _, rfl, s0, upd_same, (fun p hp => by cases hp), (fun x => by simp), Nat.le_refl _⟩ (fun i σ H' _ ⟨_, _, _, _, S', _⟩ => same_seqT S' hM.tp) ?_ ?_
    · rintro i y σ H' hi ⟨v, L, ij, rfl, S', hL, tup, keys, len⟩
      rw [List.getElem?_map] at hi
      obtain ⟨p, hp, rfl⟩ := Option.map_eq_some_iff.mp hi
      have pm := List.mem_of_getElem? hp
      have il : i < ms.length := (List.getElem?_eq_some_iff.mp hp).1
      have hit := same_seqT S' (hM.it p pm)
      have hat : atI (mvV p.2) e = some (.int (if e = 0 then (p.2.s : Int) else (p.2.t : Int))) := by
        rcases he with rfl | rfl <;> rfl
      refine ⟨_, rfl, p.1, _, _, _, rfl, rfl, hit, rfl, _, rfl, _, rfl, p.1, _, _, _, rfl, rfl, hit, hat, (by show 2 ≤ sizeLine; decide), fun q nq => ?_⟩
      have s1 : Same H' (upd H' q (.tup ((eK e p.2).map kV))) := same_up nq
      have hS1 := s1 _ _ hL
      have tup1 : ∀ x ∈ L, (upd H' q (.tup ((eK e p.2).map kV))) x.1 = some (.tup (x.2.map kV)) := fun x hx => s1 _ _ (tup x hx)
      have hit1 := same_seqT s1 hit
      have S1 := S'.trans s1
      refine ⟨_, rfl, S, q, eK e p.2, L, rfl, rfl, hS1, fun x hx => SqT.of (tup1 x hx), SqT.of upd_same, fun b hb => ?_⟩
      refine ⟨_, rfl, ?_⟩
      rcases Nat.lt_or_eq_of_le ij with lt | eq
      · have out : eK e p.2 ∉ L.map (·.2) := fun z => by
          have y := (keys _).mp z
          have g : ((ms.take j).map fun r => eK e r.2)[i]? = some (eK e p.2) := by
            rw [List.getElem?_map, List.getElem?_take_of_lt lt, hp] <;> rfl
          have := nin_take nd g
          rw [← List.map_take, List.take_take, Nat.min_eq_left (Nat.le_of_lt lt)] at this
          exact this y
        obtain rfl : b = false := by
          cases b with
          | false => rfl
          | true => exact absurd (hb.mp rfl) out
        refine iteF ?_
        refine ⟨_, rfl, ⟨S, L, rfl, hS1⟩, _, rfl, p.1, _, _, _, rfl, rfl, hit1, rfl, _, rfl, _, rfl, p.1, _, _, _, rfl, rfl, hit1, hat, (by show 2 ≤ sizeLine; decide), fun q2 nq2 => ?_⟩
        have s2 := same_up (o := .tup ((eK e p.2).map kV)) nq2
        refine ⟨S, q2, eK e p.2, L, rfl, rfl, s2 _ _ hS1, fun x hx => SqT.of (s2 _ _ (tup1 x hx)), SqT.of upd_same, by omega, fun L' _ d2 => ?_⟩
        have pm2 := d2 out
        have nSq : q2 ≠ S := (ne_of_none hS1 nq2).symm
        refine ⟨_, L', by omega, rfl, fun b o z => ?_, upd_same, fun x hx => ?_, fun x => ?_, ?_⟩
        · rw [upd_ne (ne_of_none z nS)]
          exact s2 _ _ (S1 _ _ z)
        · rcases List.mem_cons.mp (pm2.mem_iff.mp hx) with z | z
          · rw [z]
            show upd (upd _ q2 _) S _ q2 = _
            rw [upd_ne nSq]
            exact upd_same
          · have y := s2 _ _ (tup1 x z)
            rw [upd_ne (ne_of y (s2 _ _ hS1) (fun z => by cases z))]
            exact y
        · rw [List.take_add_one, hp]
          have e1 : x ∈ L'.map (·.2) ↔ x ∈ ((q2, eK e p.2) :: L).map (·.2) := (pm2.map (·.2)).mem_iff
          rw [e1, List.map_cons, List.mem_cons, keys x, List.map_append, List.mem_append]
          constructor
          · rintro (z | z)
            · exact .inr (List.mem_singleton.mpr z)
            · exact .inl z
          · rintro (z | z)
            · exact .inr z
            · exact .inl (List.mem_singleton.mp z)
        · rw [pm2.length_eq, List.length_cons]
          omega
      · subst eq
        have ep : p = pj := Option.some.inj (hp.symm.trans hj)
        subst ep
        obtain rfl : b = true := hb.mpr ((keys _).mpr inn)
        refine iteT ?_
        refine ⟨_, rfl, _, rfl, fun d hd => ?_⟩
        have S2 := S1.trans (same_up (o := .xd [("part", .ref p.1)]) hd)
        exact k d _ S2 (none_back S1 hd) upd_same
    · rintro σ H' ⟨v, L, i1, _⟩
      rw [List.length_map] at i1
      exact absurd jl (by omega)
end
/-! ## what is wrong with the parts of a text -/
inductive BadG (n st la : Nat) (ms : List Mv) : Nat ⊕ Mv → Prop
  | one (m : Mv) : ClashG 0 ms m → BadG n st la ms (.inr m)
  | two (m : Mv) : (ms.map (eK 0)).Nodup → ClashG 2 ms m → BadG n st la ms (.inr m)
  | off (x : Nat) : (ms.map (eK 0)).Nodup → (ms.map (eK 2)).Nodup → x < n → (∀ y, y < x → ToIt st (ms.map fun m => (m.s, m.t)) y) → (∀ y, y < x → ToIt la (ms.map fun m => (m.t, m.s)) y) → (NotIt st (ms.map fun m => (m.s, m.t)) x ∨ NotIt la (ms.map fun m => (m.t, m.s)) x) → BadG n st la ms (.inl x)
/-- nothing is wrong -/
structure GoodG (n st la : Nat) (ms : List Mv) : Prop where
  e0 : (ms.map (eK 0)).Nodup
  e2 : (ms.map (eK 2)).Nodup
  fw : Conn n st (ms.map fun m => (m.s, m.t))
  bw : Conn n la (ms.map fun m => (m.t, m.s))
theorem clash_of {e : Int} {ms : List Mv} (h : ¬ (ms.map (eK e)).Nodup) : ∃ m, ClashG e ms m := by
  have key : ∀ n, n ≤ ms.length → ((ms.take n).map (eK e)).Nodup ∨ ∃ m, ClashG e ms m := by
    intro n
    induction n with
    | zero => exact fun _ => .inl (by rw [List.take_zero]; exact List.nodup_nil)
    | succ n ih =>
      intro hn
      rcases ih (by omega) with nd | c
      · obtain ⟨m, hm⟩ : ∃ m, ms[n]? = some m := ⟨_, List.getElem?_eq_getElem (by omega)⟩
        by_cases hin : eK e m ∈ (ms.take n).map (eK e)
        · exact .inr ⟨m, n, hm, nd, hin⟩
        · refine .inl ?_
          rw [List.take_add_one, hm, List.map_append]
          refine List.nodup_append.mpr ⟨nd, List.nodup_cons.mpr ⟨(fun z => by cases z), List.nodup_nil⟩, fun a ha b hb => ?_⟩
          rw [List.mem_singleton.mp hb]
          exact fun z => hin (by rw [← z]; exact ha)
      · exact .inr c
  rcases key ms.length (Nat.le_refl _) with nd | c
  · rw [List.take_length] at nd
    exact absurd nd h
  · exact c
theorem toIt_or (st : Nat) (es : List (Nat × Nat)) (x : Nat) : ToIt st es x ∨ NotIt st es x := by
  rcases Classical.em (ToIt st es x) with h | h
  · exact .inl h
  · refine .inr (Classical.byContradiction fun c => h fun S h1 h2 => Classical.byContradiction fun h3 => c ⟨S, h1, h2, h3⟩)
theorem good_or (n st la : Nat) (ms : List Mv) : GoodG n st la ms ∨ ∃ b, BadG n st la ms b := by
  by_cases h0 : (ms.map (eK 0)).Nodup
  rotate_left
  · obtain ⟨m, c⟩ := clash_of h0
    exact .inr ⟨_, .one m c⟩
  by_cases h2 : (ms.map (eK 2)).Nodup
  rotate_left
  · obtain ⟨m, c⟩ := clash_of h2
    exact .inr ⟨_, .two m h0 c⟩
  have key : ∀ m, m ≤ n → (∀ y, y < m → ToIt st (ms.map fun m => (m.s, m.t)) y ∧ ToIt la (ms.map fun m => (m.t, m.s)) y) ∨ ∃ b, BadG n st la ms b := by
    intro m
    induction m with
    | zero => exact fun _ => .inl fun y hy => absurd hy (Nat.not_lt_zero _)
    | succ m ih =>
      intro hm
      rcases ih (by omega) with c | c
      · rcases toIt_or st (ms.map fun m => (m.s, m.t)) m with a | a
        · rcases toIt_or la (ms.map fun m => (m.t, m.s)) m with b | b
          · refine .inl fun y hy => ?_
            rcases Nat.lt_or_eq_of_le (Nat.le_of_lt_succ hy) with lt | eq
            · exact c y lt
            · rw [eq]
              exact ⟨a, b⟩
          · exact .inr ⟨.inl m, .off m h0 h2 (by omega) (fun y hy => (c y hy).1) (fun y hy => (c y hy).2) (.inr b)⟩
        · exact .inr ⟨.inl m, .off m h0 h2 (by omega) (fun y hy => (c y hy).1) (fun y hy => (c y hy).2) (.inl a)⟩
      · exact .inr c
  rcases key n (Nat.le_refl _) with c | c
  · exact .inl ⟨h0, h2, fun S a b x hx => (c x hx).1 S a b, fun S a b x hx => (c x hx).2 S a b⟩
  · exact .inr c
end Vk
set_option Elab.async false
set_option linter.all false
set_option maxRecDepth 100000
set_option maxHeartbeats 4000000
namespace Vk
open PySem PySem.Spec PyProof.Rows L2 Vt PySem.Vx Vs1 ClX
/-- how what is wrong is told -/
def PayAt (K : PySem.W.Frag) (H : Hp) (v : V) : Nat ⊕ Mv → Prop
  | .inl x => v = .int (x : Int)
  | .inr m => ∃ p, v = .ref p ∧ SqT K H p (mvV m)
theorem PayAt.same {K : PySem.W.Frag} {H H' : Hp} {v : V} {b : Nat ⊕ Mv} (h : PayAt K H v b) (S : Same H H') : PayAt K H' v b := by
  cases b with
  | inl x => exact h
  | inr m =>
    obtain ⟨p, e, h⟩ := h
    exact ⟨p, e, same_seqT S h⟩
def OutW (K : PySem.W.Frag) (C : Addr) (w : Nat ⊕ Mv) (H : Hp) (E : XK) : Prop := ∀ d v H', Same H H' → H d = none → H' d = some (.xd [("part", v)]) → PayAt K H' v w → E (.ref C) (some d) H'
theorem OutW.same {K : PySem.W.Frag} {C : Addr} {b : Nat ⊕ Mv} {H H' : Hp} {E : XK} (h : OutW K C b H E) (S : Same H H') : OutW K C b H' E := fun d v H2 S2 n x y => h d v H2 (S.trans S2) (none_back S n) x y
theorem clash_at {e : Int} {ms : List (Addr × Mv)} {m : Mv} (c : ClashG e (ms.map (·.2)) m) : ∃ j p, ms[j]? = some p ∧ p.2 = m ∧ ((ms.take j).map fun r => eK e r.2).Nodup ∧ eK e p.2 ∈ ((ms.take j).map fun r => eK e r.2) := by
  obtain ⟨j, hj, nd, inn⟩ := c
  rw [List.getElem?_map] at hj
  obtain ⟨p, hp, rfl⟩ := Option.map_eq_some_iff.mp hj
  rw [← List.map_take, List.map_map] at nd inn
  exact ⟨j, p, hp, rfl, nd, inn⟩
section
variable {P : Program} {w : World} {K : PySem.W.Frag} {mg : Str → Option Value} {base : Heap}
def spCheckG (K : PySem.W.Frag) (C : Addr) : Sp := fun vs H _ E => ∃ (n st la : Nat) (l : Addr) (ms : List (Addr × Mv)) (b : Nat ⊕ Mv), vs = [.int (n : Int), .int (st : Int), .int (la : Int), .ref l] ∧ MvsAt K H l ms ∧ PreM n st la (ms.map (·.2)) ∧ BadG n st la (ms.map (·.2)) b ∧ OutW K C b H E
theorem ok_checkG {f fN fS fC fX fP C fI : Addr} {fd fdN fdS fdC fdX fdP : FuncData} (F : Fun K "check_machine" "check_machine" sCheck f fd) (T : Txt8 K mg) (TK : EcK K C) (TU : EcI K C fI "part") (gE : mg "BadMachine" = some (.ref C)) {tk : Tok} (hmost : mg "MOST_STATES" = some (.int 999 tk))
    (FN : Fun K "is_number" "is_number" sNum fN fdN) (gN : mg "is_number" = some (.ref fN)) (bN : Binds K fdN ["thing"] [])
    (FS : Fun K "is_state" "is_state" sState fS fdS) (gS : mg "is_state" = some (.ref fS)) (bS : Binds K fdS ["thing", "size"] [])
    (FC : Fun K "check_moves" "check_moves" sMoves fC fdC) (gC : mg "check_moves" = some (.ref fC)) (bC : Binds K fdC ["size", "moves"] []) (GC : FnOk P w K mg base CX0 4 fC fdC ["size", "moves"] (spMoves K))
    (FX : Fun K "check_ends" "check_ends" sEnds fX fdX) (gX : mg "check_ends" = some (.ref fX)) (bX : Binds K fdX ["moves", "end"] [])
    (FP : Fun K "check_paths" "check_paths" sPaths fP fdP) (gP : mg "check_paths" = some (.ref fP)) (bP : Binds K fdP ["size", "first", "last", "moves"] []) (GP0 : FnOk P w K mg base (L2.CX P w) 2 fP fdP ["size", "first", "last", "moves"] (spPathsX K C)) :
    FnOk P w K mg base (L2.CX P w) 5 f fd ["size", "first", "last", "moves"] (spCheckG K C) := by
  have GN : FnOk P w K mg base CX0 4 fN fdN ["thing"] spNum := (ok_num FN T).mono (by decide)
  have GS : FnOk P w K mg base CX0 4 fS fdS ["thing", "size"] spState := (ok_state FS T FN gN bN).mono (by decide)
  have GX : FnOk P w K mg base CX0 4 fX fdX ["moves", "end"] (spEnds K) := (ok_ends FX T).mono (by decide)
  have GXx : FnOk P w K mg base (L2.CX P w) 4 fX fdX ["moves", "end"] (spEndsG K C) := (ok_endsG FX T TK TU gE).mono (by decide)
  have GP : FnOk P w K mg base (L2.CX P w) 4 fP fdP ["size", "first", "last", "moves"] (spPathsX K C) := GP0.mono (by decide)
  refine F.okX scK (fun vs H Q E h => ?_) (fun cdv A outer s H vs Q E hr h => ?_)
  · obtain ⟨n, st, la, l, ms, b, rfl, _⟩ := h
    rfl
  · obtain ⟨n, st, la, l, ms, b, rfl, hM, ok, bad, k⟩ := h
    have n1 := ok.n1
    have n2 := ok.n2
    have few : ms.length ≤ 3999 := by
      have := ok.few
      rw [List.length_map] at this
      exact this
    have okp : ∀ p ∈ ms, OkMv n p.2 := fun p hp => ok.ok p.2 (List.mem_map.mpr ⟨p, hp, rfl⟩)
    cases bad with
    | one m c =>
      obtain ⟨jj, pj, hj, rfl, cnd, cin⟩ := clash_at c
      refine ⟨_, (pss_cons (ps_if (PW.pt (pw_or (pt_not (pt_val (pe_call GN hr rfl gN FN.kp bN .nil pass0 (pa_cons (pv 0) pa_nil)))) (pw_or1 (pt_not (pt_chain op_le op_le pe_int (pv 0) (pe_glob (v := .int 999) (by rfl) hmost ⟨_, rfl⟩)))))) (pss_one ps_never) pss_nil)
        (pss_cons (ps_if (pt_not (pt_val (pe_call GS hr rfl gS FS.kp bS .nil pass0 (pa_cons (pv 1) (pa_cons (pv 0) pa_nil))))) (pss_one ps_never) pss_nil)
        (pss_cons (ps_if (pt_not (pt_val (pe_call GS hr rfl gS FS.kp bS .nil pass0 (pa_cons (pv 2) (pa_cons (pv 0) pa_nil))))) (pss_one ps_never) pss_nil)
        (pss_cons (ps_expr (pe_call GC hr rfl gC FC.kp bC .nil pass0 (pa_cons (pv 0) (pa_cons (pv 3) pa_nil))))
        (pss_cons (ps_expr (pe_call GXx hr rfl gX FX.kp bX .nil (passes_call (takes_of rfl rfl rfl rfl) fun _ _ _ _ h => h) (pa_cons (pv 3) (pa_cons pe_int pa_nil)))) (pss_cons ps_never (pss_one ps_never))))))), ?_⟩
      refine ⟨_, rfl, _, rfl, _, rfl, ?_⟩
      refine iteF ?_
      refine ⟨_, rfl, _, _, rfl, rfl, _, rfl, ?_⟩
      rw [decide_eq_true (show (1 : Int) ≤ (n : Int) from Int.ofNat_le.mpr ok.n1)]
      refine iteT ?_
      refine ⟨_, _, rfl, rfl, _, rfl, ?_⟩
      refine iteNS (show (n : Int) ≤ 999 by omega) ?_
      refine ⟨_, rfl, _, rfl, _, _, rfl, Int.natCast_nonneg _, Int.ofNat_lt.mpr ok.hst, _, rfl, ?_⟩
      refine iteF ?_
      refine ⟨_, rfl, _, rfl, _, _, rfl, Int.natCast_nonneg _, Int.ofNat_lt.mpr ok.hla, _, rfl, ?_⟩
      refine iteF ?_
      refine ⟨_, rfl, _, rfl, n, l, ms, rfl, hM, okp, asc_of_lt ok.asc, by omega, fun H1 S1 => ?_⟩
      have hM1 : MvsAt K H1 l ms := ⟨same_seqT S1 hM.tp, fun p hp => same_seqT S1 (hM.it p hp)⟩
      exact ⟨_, rfl, 0, l, ms, jj, pj, rfl, .inl rfl, hM1, few, hj, cnd, cin, fun d H' S hn hx => k d _ H' (S1.trans S) (none_back S1 hn) hx ⟨pj.1, rfl, same_seqT S (hM1.it pj (List.mem_of_getElem? hj))⟩⟩
    | two m nd c =>
      obtain ⟨jj, pj, hj, rfl, cnd, cin⟩ := clash_at c
      refine ⟨_, (pss_cons (ps_if (PW.pt (pw_or (pt_not (pt_val (pe_call GN hr rfl gN FN.kp bN .nil pass0 (pa_cons (pv 0) pa_nil)))) (pw_or1 (pt_not (pt_chain op_le op_le pe_int (pv 0) (pe_glob (v := .int 999) (by rfl) hmost ⟨_, rfl⟩)))))) (pss_one ps_never) pss_nil)
        (pss_cons (ps_if (pt_not (pt_val (pe_call GS hr rfl gS FS.kp bS .nil pass0 (pa_cons (pv 1) (pa_cons (pv 0) pa_nil))))) (pss_one ps_never) pss_nil)
        (pss_cons (ps_if (pt_not (pt_val (pe_call GS hr rfl gS FS.kp bS .nil pass0 (pa_cons (pv 2) (pa_cons (pv 0) pa_nil))))) (pss_one ps_never) pss_nil)
        (pss_cons (ps_expr (pe_call GC hr rfl gC FC.kp bC .nil pass0 (pa_cons (pv 0) (pa_cons (pv 3) pa_nil))))
        (pss_cons (ps_expr (pe_call GX hr rfl gX FX.kp bX .nil pass0 (pa_cons (pv 3) (pa_cons pe_int pa_nil)))) (pss_cons (ps_expr (pe_call GXx hr rfl gX FX.kp bX .nil (passes_call (takes_of rfl rfl rfl rfl) fun _ _ _ _ h => h) (pa_cons (pv 3) (pa_cons pe_int pa_nil)))) (pss_one ps_never))))))), ?_⟩
      refine ⟨_, rfl, _, rfl, _, rfl, ?_⟩
      refine iteF ?_
      refine ⟨_, rfl, _, _, rfl, rfl, _, rfl, ?_⟩
      rw [decide_eq_true (show (1 : Int) ≤ (n : Int) from Int.ofNat_le.mpr ok.n1)]
      refine iteT ?_
      refine ⟨_, _, rfl, rfl, _, rfl, ?_⟩
      refine iteNS (show (n : Int) ≤ 999 by omega) ?_
      refine ⟨_, rfl, _, rfl, _, _, rfl, Int.natCast_nonneg _, Int.ofNat_lt.mpr ok.hst, _, rfl, ?_⟩
      refine iteF ?_
      refine ⟨_, rfl, _, rfl, _, _, rfl, Int.natCast_nonneg _, Int.ofNat_lt.mpr ok.hla, _, rfl, ?_⟩
      refine iteF ?_
      refine ⟨_, rfl, _, rfl, n, l, ms, rfl, hM, okp, asc_of_lt ok.asc, by omega, fun H1 S1 => ?_⟩
      have hM1 : MvsAt K H1 l ms := ⟨same_seqT S1 hM.tp, fun p hp => same_seqT S1 (hM.it p hp)⟩
      refine ⟨_, rfl, 0, l, ms, rfl, .inl rfl, hM1, by rw [List.map_map] at nd; exact nd, few, fun H2 S2 => ?_⟩
      have hM2 : MvsAt K H2 l ms := ⟨same_seqT S2 hM1.tp, fun p hp => same_seqT S2 (hM1.it p hp)⟩
      have S12 := S1.trans S2
      exact ⟨_, rfl, 2, l, ms, jj, pj, rfl, .inr rfl, hM2, few, hj, cnd, cin, fun d H' S hn hx => k d _ H' (S12.trans S) (none_back S12 hn) hx ⟨pj.1, rfl, same_seqT S (hM2.it pj (List.mem_of_getElem? hj))⟩⟩
    | off x nd0 nd2 xn a1 a2 bd =>
      rw [List.map_map] at nd0 nd2 a1 a2 bd
      rw [List.map_map] at bd
      refine ⟨_, (pss_cons (ps_if (PW.pt (pw_or (pt_not (pt_val (pe_call GN hr rfl gN FN.kp bN .nil pass0 (pa_cons (pv 0) pa_nil)))) (pw_or1 (pt_not (pt_chain op_le op_le pe_int (pv 0) (pe_glob (v := .int 999) (by rfl) hmost ⟨_, rfl⟩)))))) (pss_one ps_never) pss_nil)
        (pss_cons (ps_if (pt_not (pt_val (pe_call GS hr rfl gS FS.kp bS .nil pass0 (pa_cons (pv 1) (pa_cons (pv 0) pa_nil))))) (pss_one ps_never) pss_nil)
        (pss_cons (ps_if (pt_not (pt_val (pe_call GS hr rfl gS FS.kp bS .nil pass0 (pa_cons (pv 2) (pa_cons (pv 0) pa_nil))))) (pss_one ps_never) pss_nil)
        (pss_cons (ps_expr (pe_call GC hr rfl gC FC.kp bC .nil pass0 (pa_cons (pv 0) (pa_cons (pv 3) pa_nil))))
        (pss_cons (ps_expr (pe_call GX hr rfl gX FX.kp bX .nil pass0 (pa_cons (pv 3) (pa_cons pe_int pa_nil)))) (pss_cons (ps_expr (pe_call GX hr rfl gX FX.kp bX .nil pass0 (pa_cons (pv 3) (pa_cons pe_int pa_nil)))) (pss_one (ps_expr (pe_call GP hr rfl gP FP.kp bP .nil (passes_call (takes_of rfl rfl rfl rfl) fun _ _ _ _ h => h) (pa_cons (pv 0) (pa_cons (pv 1) (pa_cons (pv 2) (pa_cons (pv 3) pa_nil))))))))))))), ?_⟩
      refine ⟨_, rfl, _, rfl, _, rfl, ?_⟩
      refine iteF ?_
      refine ⟨_, rfl, _, _, rfl, rfl, _, rfl, ?_⟩
      rw [decide_eq_true (show (1 : Int) ≤ (n : Int) from Int.ofNat_le.mpr ok.n1)]
      refine iteT ?_
      refine ⟨_, _, rfl, rfl, _, rfl, ?_⟩
      refine iteNS (show (n : Int) ≤ 999 by omega) ?_
      refine ⟨_, rfl, _, rfl, _, _, rfl, Int.natCast_nonneg _, Int.ofNat_lt.mpr ok.hst, _, rfl, ?_⟩
      refine iteF ?_
      refine ⟨_, rfl, _, rfl, _, _, rfl, Int.natCast_nonneg _, Int.ofNat_lt.mpr ok.hla, _, rfl, ?_⟩
      refine iteF ?_
      refine ⟨_, rfl, _, rfl, n, l, ms, rfl, hM, okp, asc_of_lt ok.asc, by omega, fun H1 S1 => ?_⟩
      have hM1 : MvsAt K H1 l ms := ⟨same_seqT S1 hM.tp, fun p hp => same_seqT S1 (hM.it p hp)⟩
      refine ⟨_, rfl, 0, l, ms, rfl, .inl rfl, hM1, nd0, few, fun H2 S2 => ?_⟩
      have hM2 : MvsAt K H2 l ms := ⟨same_seqT S2 hM1.tp, fun p hp => same_seqT S2 (hM1.it p hp)⟩
      refine ⟨_, rfl, 2, l, ms, rfl, .inr rfl, hM2, nd2, few, fun H3 S3 => ?_⟩
      have hM3 : MvsAt K H3 l ms := ⟨same_seqT S3 hM2.tp, fun p hp => same_seqT S3 (hM2.it p hp)⟩
      have S13 := (S1.trans S2).trans S3
      exact ⟨_, rfl, _, rfl, _, rfl, _, rfl, n, st, la, l, ms, rfl, hM3, okp, ok.hst, ok.hla, by omega, by omega, x, xn, a1, a2, bd, fun d H' S hn hx => k d _ H' (S13.trans S) (none_back S13 hn) hx rfl⟩
def spInitG (K : PySem.W.Frag) (C : Addr) : Sp := fun vs H _ E => ∃ (n st la : Nat) (a l : Addr) (ms : List (Addr × Mv)) (b : Nat ⊕ Mv), vs = [.ref a, .int (n : Int), .int (st : Int), .int (la : Int), .ref l] ∧ MvsAt K H l ms ∧ PreM n st la (ms.map (·.2)) ∧ BadG n st la (ms.map (·.2)) b ∧ OutW K C b H E
theorem ok_initG {f fK C : Addr} {fd fdK : FuncData} (F : Fun K "__init__" "Machine.__init__" sInit f fd) (FK : Fun K "check_machine" "check_machine" sCheck fK fdK) (gK : mg "check_machine" = some (.ref fK)) (bK : Binds K fdK ["size", "first", "last", "moves"] [])
    (GK : FnOk P w K mg base (L2.CX P w) 5 fK fdK ["size", "first", "last", "moves"] (spCheckG K C)) : FnOk P w K mg base (L2.CX P w) 6 f fd ["self", "size", "first", "last", "moves"] (spInitG K C) := by
  refine F.okX scI (fun vs H Q E h => ?_) (fun cdv A outer s H vs Q E hr h => ?_)
  · obtain ⟨n, st, la, a, l, ms, b, rfl, _⟩ := h
    rfl
  · obtain ⟨n, st, la, a, l, ms, b, rfl, hM, ok, bad, k⟩ := h
    refine ⟨_, (pss_cons (ps_expr (pe_call GK hr rfl gK FK.kp bK .nil (passes_call (takes_of rfl rfl rfl rfl) fun _ _ _ _ h => h) (pa_cons (pv 1) (pa_cons (pv 2) (pa_cons (pv 3) (pa_cons (pv 4) pa_nil))))))
      (pss_cons ps_never (pss_cons ps_never (pss_cons ps_never (pss_cons ps_never (pss_cons ps_never (pss_cons ps_never (pss_one ps_never)))))))), ?_⟩
    exact ⟨_, rfl, _, rfl, _, rfl, _, rfl, n, st, la, l, ms, b, rfl, hM, ok, bad, k⟩
end
end Vk
set_option Elab.async false
set_option linter.all false
set_option maxRecDepth 100000
set_option maxHeartbeats 4000000
namespace Vk
open PySem PySem.Spec PyProof.Rows L2 Vt PySem.Vx Vs1 ClX
theorem FnOk.or {P : Program} {w : World} {K : PySem.W.Frag} {mg : Str → Option Value} {base : Heap} {CX : CXT} {k : Nat} {f : Addr} {fd : FuncData} {ps : List Str} {sp sp' : Sp} (F : FnOk P w K mg base CX k f fd ps sp) (G : FnOk P w K mg base CX k f fd ps sp') :
    FnOk P w K mg base CX k f fd ps (fun vs H Q E => sp vs H Q E ∨ sp' vs H Q E) :=
  ⟨fun vs H Q E q => q.elim (F.len vs H Q E) (G.len vs H Q E), fun A outer s H args us vs Q E hr he hb hv hs => hs.elim (F.run A outer s H args us vs Q E hr he hb hv) (G.run A outer s H args us vs Q E hr he hb hv)⟩
def OutD (K : PySem.W.Frag) (C : Addr) (p : PyData) (H : Hp) (E : XK) : Prop := ∀ d v H', Same H H' → H d = none → H' d = some (.xd [("part", v)]) → Dr K H' v p → E (.ref C) (some d) H'
theorem OutD.same {K : PySem.W.Frag} {C : Addr} {p : PyData} {H H' : Hp} {E : XK} (h : OutD K C p H E) (S : Same H H') : OutD K C p H' E := fun d v H2 S2 n x y => h d v H2 (S.trans S2) (none_back S n) x y
/-- what is wrong with moves by themselves -/
inductive WrongM (n : Nat) : PyData → PyData → Prop
  | moves (d : PyData) : kitT d = false → WrongM n d (.str "moves")
  | move (ds : List PyData) (j : Nat) (x : PyData) : ds[j]? = some x → isMv x (n : Int) = false → (∀ i y, i < j → ds[i]? = some y → isMv y (n : Int) = true) → WrongM n (.tuple ds) x
  | order (ms : List Mv) : (∀ m ∈ ms, OkMv n m) → ¬ ms.Pairwise mvLt → WrongM n (.tuple (ms.map mvD)) (.str "order")
theorem movesWrong_or (n : Nat) (d : PyData) : (∃ p, WrongM n d p) ∨ ∃ ms : List Mv, d = .tuple (ms.map mvD) ∧ (∀ m ∈ ms, OkMv n m) ∧ ms.Pairwise mvLt := by
  cases h : kitT d with
  | false => exact .inl ⟨_, .moves d h⟩
  | true =>
    cases d with
    | tuple ds =>
      by_cases a : ∀ x ∈ ds, isMv x (n : Int) = true
      · obtain ⟨ms, rfl, ok⟩ := moves_of a
        rcases Classical.em (ms.Pairwise mvLt) with c | c
        · exact .inr ⟨ms, rfl, ok, c⟩
        · exact .inl ⟨_, .order ms ok c⟩
      · left
        have key : ∀ k, k ≤ ds.length → (∀ i y, i < k → ds[i]? = some y → isMv y (n : Int) = true) ∨ ∃ p, WrongM n (.tuple ds) p := by
          intro k
          induction k with
          | zero => exact fun _ => .inl fun i y h => absurd h (Nat.not_lt_zero _)
          | succ k ih =>
            intro hk
            rcases ih (by omega) with c | c
            · obtain ⟨x, hx⟩ : ∃ x, ds[k]? = some x := ⟨_, List.getElem?_eq_getElem (by omega)⟩
              cases b : isMv x (n : Int) with
              | false => exact .inr ⟨_, .move ds k x hx b c⟩
              | true =>
                refine .inl fun i y hi hy => ?_
                rcases Nat.lt_or_eq_of_le (Nat.le_of_lt_succ hi) with lt | eq
                · exact c i y lt hy
                · rw [eq, hx] at hy
                  cases hy
                  exact b
            · exact .inr c
        rcases key ds.length (Nat.le_refl _) with c | c
        · exact absurd (fun x hx => by
            obtain ⟨i, hi, e⟩ := List.mem_iff_getElem.mp hx
            exact c i x hi (by rw [List.getElem?_eq_getElem hi, e])) a
        · exact c
    | _ => cases h
section
variable {P : Program} {w : World} {K : PySem.W.Frag} {mg : Str → Option Value} {base : Heap}
def spMovesX (K : PySem.W.Frag) (C : Addr) : Sp := fun vs H _ E => ∃ (n : Nat) (v : V) (d p : PyData), vs = [.int (n : Int), v] ∧ Dr K H v d ∧ wt d ≤ 4000 ∧ WrongM n d p ∧ OutD K C p H E
theorem ok_movesX {f fM C fI : Addr} {fd fdM : FuncData} (F : Fun K "check_moves" "check_moves" sMoves f fd) (T : Txt8 K mg) (TK : EcK K C) (TU : EcI K C fI "part") (gE : mg "BadMachine" = some (.ref C)) (FM : Fun K "is_move" "is_move" sMove fM fdM) (gM : mg "is_move" = some (.ref fM)) (bM : Binds K fdM ["thing", "size"] [])
    (GM : FnOk P w K mg base CX0 3 fM fdM ["thing", "size"] (spMoveD K)) : FnOk P w K mg base (L2.CX P w) 4 f fd ["size", "moves"] (spMovesX K C) := by
  refine F.okX scC (fun vs H Q E h => ?_) (fun cdv A outer s H vs Q E hr h => ?_)
  · obtain ⟨n, v, d, p, rfl, _⟩ := h
    rfl
  · obtain ⟨n, v, d, p, rfl, hd, hw, bad, k⟩ := h
    refine ⟨_, (pss_cons (ps_if (pt_not (pt_val (pe_callB call_isi (by rfl) T.isi (by decide +kernel) (pa_cons (pv 1) (pa_cons (pe_bltn (v := .ty "tuple") (by rfl) T.tup (by decide +kernel) rfl) pa_nil))))) (pss_one (ps_raise rfl (takes_of rfl rfl rfl rfl) (pmk_E TK TU gE hr (pa_cons pe_str pa_nil)))) pss_nil)
        (pss_cons (ps_for (passes_of rfl) rfl (pi_tup (pv 1)) (pg_name (i := 2) scC.nd rfl (.inl rfl)) (pss_one (ps_if (pt_not (pt_val (pe_call GM hr rfl gM FM.kp bM .nil pass0 (pa_cons (pv 2) (pa_cons (pv 0) pa_nil))))) (pss_one (ps_raise rfl (takes_of rfl rfl rfl rfl) (pmk_E TK TU gE hr (pa_cons (pv 2) pa_nil)))) pss_nil)))
        (pss_one (ps_if (pt_cmpR (op_neD hr.units) (pe_callTy call_list_of (by rfl) T.lst (by decide +kernel) (pa_cons (pv 1) pa_nil)) (pe_callB (cr_sortedM (by rfl) hr.units) (by rfl) T.srt (by decide +kernel) (pa_cons (pe_callTy (cr_setM (by rfl) hr.units) (by rfl) T.set (by decide +kernel) (pa_cons (pv 1) pa_nil)) pa_nil)) (nomark _)) (pss_one (ps_raise rfl (takes_of rfl rfl rfl rfl) (pmk_E TK TU gE hr (pa_cons pe_str pa_nil)))) pss_nil)))), ?_⟩
    refine ⟨_, rfl, _, _, _, _, kitT d, rfl, .ty "tuple", tyX_dr hd, kit_tup d, _, rfl, ?_⟩
    cases bad with
    | moves _ hk =>
      rw [hk]
      refine iteT ?_
      exact ⟨_, rfl, fun e he => k e _ _ (same_up he) he upd_same (.str _)⟩
    | move ds j x hx bx pre =>
      refine iteF ?_
      obtain ⟨a, xs, rfl, hs, ha⟩ := dr_tup hd
      refine ⟨_, rfl, a, rfl, ⟨_, hs⟩, ?_⟩
      have lx := ha.length
      have jl : j < ds.length := (List.getElem?_eq_some_iff.mp hx).1
      refine for_tup (K := K) (a := a) (xs := xs) (fun i σ H' => ∃ v : Option V, i ≤ j ∧ σ = [some (.int (n : Int)), some (.ref a), v] ∧ H' = H) ⟨none, Nat.zero_le _, rfl, rfl⟩ (fun i σ H' _ ⟨_, _, _, e⟩ => by rw [e]; exact hs) ?_ ?_
      · rintro i y σ H' hi ⟨v, ij, rfl, rfl⟩
        obtain ⟨dy, hdy, ry⟩ := ha.get hi
        have wy : wt dy ≤ 1000000 := by
          have := wt_mem (List.mem_of_getElem? hdy)
          have e : wt (.tuple ds) = wtAll ds + 1 := rfl
          omega
        refine ⟨_, rfl, _, rfl, y, dy, (n : Int), rfl, ry, wy, _, rfl, ?_⟩
        rcases Nat.lt_or_eq_of_le ij with lt | eq
        · rw [pre i dy lt hdy]
          refine iteF ?_
          exact ⟨_, by omega, rfl, rfl⟩
        · subst eq
          rw [hx] at hdy
          cases hdy
          rw [bx]
          refine iteT ?_
          exact ⟨_, rfl, _, rfl, fun e he => k e _ _ (same_up he) he upd_same (ry.keep (same_up he))⟩
      · rintro σ H' ⟨v, i1, _⟩
        omega
    | order ms ok nasc =>
      refine iteF ?_
      obtain ⟨l, xs, rfl, hs, ha⟩ := dr_tup hd
      obtain ⟨qs, rfl, rfl, hq⟩ := dr_mvs ha
      have okq : ∀ r ∈ qs, OkMv n r.2 := fun r hr => ok r.2 (List.mem_map.mpr ⟨r, hr, rfl⟩)
      have oc : ∀ p ∈ qs, p.2.c ≤ 122 := fun p hp => (okq p hp).2.2.2
      have few : qs.length ≤ 4000 := by
        have e : wt (.tuple ((qs.map (·.2)).map mvD)) = wtAll ((qs.map (·.2)).map mvD) + 1 := rfl
        have := wtAll_len ((qs.map (·.2)).map mvD)
        rw [List.length_map, List.length_map] at this
        omega
      refine ⟨_, rfl, l, rfl, ⟨_, hs⟩, ?_⟩
      refine for_tup (K := K) (a := l) (xs := qs.map fun p => V.ref p.1) (fun i σ H' => ∃ v : Option V, σ = [some (.int (n : Int)), some (.ref l), v] ∧ H' = H) ⟨none, rfl, rfl⟩ (fun i σ H' _ ⟨_, _, e⟩ => by rw [e]; exact hs) ?_ ?_
      · rintro i y σ H' hi ⟨v, rfl, rfl⟩
        rw [List.getElem?_map] at hi
        obtain ⟨p, hp, rfl⟩ := Option.map_eq_some_iff.mp hi
        have pm := List.mem_of_getElem? hp
        have wy : wt (mvD p.2) ≤ 1000000 := by
          have := wt_mem (List.mem_map.mpr ⟨p.2, List.mem_map.mpr ⟨p, pm, rfl⟩, rfl⟩ : mvD p.2 ∈ (qs.map (·.2)).map mvD)
          have e : wt (.tuple ((qs.map (·.2)).map mvD)) = wtAll ((qs.map (·.2)).map mvD) + 1 := rfl
          omega
        refine ⟨_, rfl, _, rfl, .ref p.1, mvD p.2, (n : Int), rfl, mv_dr (hq p pm), wy, _, rfl, ?_⟩
        rw [isMv_mv (okq p pm)]
        refine iteF ?_
        exact ⟨_, rfl, rfl⟩
      · rintro σ H' ⟨v, rfl, rfl⟩
        have kd : (qs.map kp).map (fun p => V.ref p.1) = qs.map fun p => V.ref p.1 := by rw [List.map_map] <;> rfl
        refine ⟨_, rfl, l, _, rfl, .inr hs, fun l1 n1 => ?_⟩
        have s1 := same_up (o := .lst (qs.map fun p => V.ref p.1)) n1
        refine ⟨_, rfl, l, qs.map kp, rfl, .inl (by rw [kd]; exact same_seqT s1 hs), fun p hp => ?_, by rw [List.length_map]; exact few, fun a L na h1 h2 h3 h4 => ?_⟩
        · obtain ⟨q, hq', rfl⟩ := List.mem_map.mp hp
          exact same_seqT s1 (hq q hq')
        have s2 := s1.trans (same_up (o := SetMO P w a L) na)
        have gk : ∀ {H2 : Hp}, Same H' H2 → ∀ p ∈ qs.map kp, SqT K H2 p.1 (p.2.map kV) := fun S p hp => by
          obtain ⟨q, hq', rfl⟩ := List.mem_map.mp hp
          exact same_seqT S (hq q hq')
        refine ⟨a, L, rfl, upd_same, fun p hp => gk s2 p (h1 p hp), fun d hd d' hd' => ?_, fun p hp => ?_, fun ys b py srt nb => ?_⟩
        · obtain ⟨p, hp, rfl⟩ := List.mem_map.mp hd
          obtain ⟨p', hp', rfl⟩ := List.mem_map.mp hd'
          obtain ⟨q, _, rfl⟩ := List.mem_map.mp (h1 p hp)
          obtain ⟨q', _, rfl⟩ := List.mem_map.mp (h1 p' hp')
          simp [encM, kp, mvK, keyD, PySem.W.alike, PySem.W.alikeAll]
        · obtain ⟨q, _, rfl⟩ := List.mem_map.mp (h1 p hp)
          exact fun z => by cases z
        · -- the sorted ones are moves, strictly ascending
          have memy : ∀ y ∈ ys, y ∈ qs.map kp := fun y hy => h1 y (py.mem_iff.mp hy)
          obtain ⟨rs, rfl, hrs⟩ : ∃ rs : List (Addr × Mv), ys = rs.map kp ∧ ∀ r ∈ rs, r ∈ qs := by
            clear srt nb py
            induction ys with
            | nil => exact ⟨[], rfl, fun _ h => nomatch h⟩
            | cons y ys ih =>
              obtain ⟨rs, e1, e2⟩ := ih fun y hy => memy y (.tail _ hy)
              obtain ⟨q, hq', e3⟩ := List.mem_map.mp (memy y List.mem_cons_self)
              refine ⟨q :: rs, by rw [List.map_cons, e3, e1], fun r hr => ?_⟩
              rcases List.mem_cons.mp hr with z | z
              · rw [z]
                exact hq'
              · exact e2 r z
          have kd2 : (rs.map kp).map (fun p => V.ref p.1) = rs.map fun p => V.ref p.1 := by rw [List.map_map] <;> rfl
          rw [kd2]
          have s3 := s2.trans (same_up (o := .lst (rs.map fun p => V.ref p.1)) nb)
          have e1 : upd (upd (upd H' l1 (.lst (qs.map fun p => V.ref p.1))) a (SetMO P w a L)) b (.lst (rs.map fun p => V.ref p.1)) l1 = some (.lst (qs.map fun p => V.ref p.1)) := by
            rw [upd_ne (ne_of_none (by rw [upd_ne (ne_of_none upd_same na)]; exact upd_same) nb), upd_ne (ne_of_none upd_same na)]
            exact upd_same
          have dp : DpAll K (upd (upd (upd H' l1 (.lst (qs.map fun p => V.ref p.1))) a (SetMO P w a L)) b (.lst (rs.map fun p => V.ref p.1))) (qs.map fun p => V.ref p.1) (qs.map fun p => mvD p.2) := dp_mvs fun p hp => same_seqT s3 (hq p hp)
          have dp2 : DpAll K (upd (upd (upd H' l1 (.lst (qs.map fun p => V.ref p.1))) a (SetMO P w a L)) b (.lst (rs.map fun p => V.ref p.1))) (rs.map fun p => V.ref p.1) (rs.map fun p => mvD p.2) := dp_mvs fun p hp => same_seqT s3 (hq p (hrs p hp))
          refine ⟨.list (qs.map fun (p : Addr × Mv) => mvD p.2), .list (rs.map fun (p : Addr × Mv) => mvD p.2), Dp.lst (K := K) (SqL.of e1) dp, Dp.lst (K := K) (SqL.of upd_same) dp2, shaped_mvs qs oc, shaped_mvs rs (fun p hp => oc p (hrs p hp)), _, rfl, ?_⟩
          have e4 : PyData.eqv (.list (qs.map fun (p : Addr × Mv) => mvD p.2)) (.list (rs.map fun (p : Addr × Mv) => mvD p.2)) = decide (qs.map (·.2) = rs.map (·.2)) := by
            have h := eqv_mvs (qs.map (·.2)) (rs.map (·.2))
            rw [List.map_map, List.map_map] at h
            exact h
          have ne : qs.map (·.2) ≠ rs.map (·.2) := fun e => by
            refine nasc ?_
            rw [e]
            have nd : ((rs.map kp).map (·.2)).Nodup := ((py.map (·.2)).nodup_iff).mpr h3
            unfold List.Nodup at nd
            rw [List.pairwise_map, List.pairwise_map] at nd
            rw [List.pairwise_map] at srt
            rw [List.pairwise_map]
            refine (srt.and nd).imp fun {x y} z => ?_
            rcases mvLt_tri x.2 y.2 with c | c | c
            · exact c
            · exact absurd (by show mvK x.2 = mvK y.2; rw [c]) z.2
            · have w := leM_lt c y.1 x.1
              have z1 : leM (x.1, mvK x.2) (y.1, mvK y.2) = true := z.1
              rw [w] at z1
              cases z1
          rw [e4, decide_eq_false ne]
          refine iteT ?_
          exact ⟨_, rfl, fun e he => k e _ _ (s3.trans (same_up he)) (none_back s3 he) upd_same (.str _)⟩
end
end Vk
set_option Elab.async false
set_option linter.all false
set_option maxRecDepth 100000
set_option maxHeartbeats 4000000
namespace Vk
open PySem PySem.Spec PyProof.Rows L2 Vt PySem.Vx Vs1 ClX
def payD : Nat ⊕ Mv → PyData
  | .inl x => .int (x : Int)
  | .inr m => mvD m
/-- what is wrong with a plan -/
inductive WrongP : PyData → PyData → PyData → PyData → PyData → Prop
  | size (d0 d1 d2 d3 : PyData) : (∀ i, d0 = .int i → ¬ (1 ≤ i ∧ i ≤ 999)) → WrongP d0 d1 d2 d3 (.str "size")
  | first (n : Nat) (d1 d2 d3 : PyData) : 1 ≤ n → n ≤ 999 → isPl d1 (n : Int) = false → WrongP (.int (n : Int)) d1 d2 d3 (.str "first")
  | last (n : Nat) (d1 d2 d3 : PyData) : 1 ≤ n → n ≤ 999 → isPl d1 (n : Int) = true → isPl d2 (n : Int) = false → WrongP (.int (n : Int)) d1 d2 d3 (.str "last")
  | moves (n st la : Nat) (d3 p : PyData) : 1 ≤ n → n ≤ 999 → st < n → la < n → WrongM n d3 p → WrongP (.int (n : Int)) (.int (st : Int)) (.int (la : Int)) d3 p
  | bad (n st la : Nat) (ms : List Mv) (b : Nat ⊕ Mv) : PreM n st la ms → BadG n st la ms b → WrongP (.int (n : Int)) (.int (st : Int)) (.int (la : Int)) (.tuple (ms.map mvD)) (payD b)
/-- nothing is wrong -/
inductive RightP : PyData → PyData → PyData → PyData → Prop
  | mk (n st la : Nat) (ms : List Mv) : PreM n st la ms → GoodG n st la ms → RightP (.int (n : Int)) (.int (st : Int)) (.int (la : Int)) (.tuple (ms.map mvD))
theorem pl_of {d : PyData} {n : Nat} (h : isPl d (n : Int) = true) : ∃ st : Nat, d = .int (st : Int) ∧ st < n := by
  unfold isPl at h
  split at h
  · rename_i i
    rw [Bool.and_eq_true, decide_eq_true_eq, decide_eq_true_eq] at h
    exact ⟨i.toNat, by rw [Int.toNat_of_nonneg h.1], by omega⟩
  · cases h
theorem pl_at {n st : Nat} (h : st < n) : isPl (.int (st : Int)) (n : Int) = true := by
  show (decide ((0 : Int) ≤ (st : Int)) && decide ((st : Int) < (n : Int))) = true
  rw [decide_eq_true (by omega : (0 : Int) ≤ (st : Int)), decide_eq_true (by omega : (st : Int) < (n : Int))] <;> rfl
theorem len_wt {ms : List Mv} {m : Nat} (h : wt (.tuple (ms.map mvD)) ≤ m + 1) : ms.length ≤ m := by
  have e : wt (.tuple (ms.map mvD)) = wtAll (ms.map mvD) + 1 := rfl
  have := wtAll_len (ms.map mvD)
  rw [List.length_map] at this
  omega
theorem wrongP_or (d0 d1 d2 d3 : PyData) (hw : wt d3 ≤ 4000) : (∃ p, WrongP d0 d1 d2 d3 p) ∨ RightP d0 d1 d2 d3 := by
  by_cases h0 : ∃ n : Nat, d0 = .int (n : Int) ∧ 1 ≤ n ∧ n ≤ 999
  rotate_left
  · refine .inl ⟨_, .size _ _ _ _ fun i e c => h0 ⟨i.toNat, ?_, ?_, ?_⟩⟩
    · rw [e, Int.toNat_of_nonneg (by omega)]
    · omega
    · omega
  obtain ⟨n, rfl, n1, n2⟩ := h0
  cases h1 : isPl d1 (n : Int) with
  | false => exact .inl ⟨_, .first n _ _ _ n1 n2 h1⟩
  | true =>
    cases h2 : isPl d2 (n : Int) with
    | false => exact .inl ⟨_, .last n _ _ _ n1 n2 h1 h2⟩
    | true =>
      obtain ⟨st, rfl, hst⟩ := pl_of h1
      obtain ⟨la, rfl, hla⟩ := pl_of h2
      rcases movesWrong_or n d3 with ⟨p, c⟩ | ⟨ms, rfl, ok, asc⟩
      · exact .inl ⟨p, .moves n st la _ _ n1 n2 hst hla c⟩
      · have pre : PreM n st la ms := ⟨n1, n2, hst, hla, ok, asc, len_wt hw⟩
        rcases good_or n st la ms with g | ⟨b, c⟩
        · exact .inr (.mk n st la ms pre g)
        · exact .inl ⟨_, .bad n st la ms b pre c⟩
theorem dr_pay {K : PySem.W.Frag} {H : Hp} {v : V} {b : Nat ⊕ Mv} (h : PayAt K H v b) : Dr K H v (payD b) := by
  cases b with
  | inl x =>
    cases h
    exact .int _
  | inr m =>
    obtain ⟨p, rfl, h⟩ := h
    exact mv_dr h
section
variable {P : Program} {w : World} {K : PySem.W.Frag} {mg : Str → Option Value} {base : Heap}
def IsBad (d0 d1 d2 d3 p : PyData) : Prop := ∃ (n st la : Nat) (ms : List Mv) (b : Nat ⊕ Mv), PreM n st la ms ∧ BadG n st la ms b ∧ d0 = .int (n : Int) ∧ d1 = .int (st : Int) ∧ d2 = .int (la : Int) ∧ d3 = .tuple (ms.map mvD) ∧ p = payD b
def spCheckY (K : PySem.W.Frag) (C : Addr) : Sp := fun vs H _ E => ∃ (v0 v1 v2 v3 : V) (d0 d1 d2 d3 p : PyData), vs = [v0, v1, v2, v3] ∧ Dr K H v0 d0 ∧ Dr K H v1 d1 ∧ Dr K H v2 d2 ∧ Dr K H v3 d3 ∧ wt d3 ≤ 4000 ∧ WrongP d0 d1 d2 d3 p ∧ (¬ IsBad d0 d1 d2 d3 p) ∧ OutD K C p H E
theorem ok_checkY {f fN fS fC C fI : Addr} {fd fdN fdS fdC : FuncData} (F : Fun K "check_machine" "check_machine" sCheck f fd) (T : Txt8 K mg) (TK : EcK K C) (TU : EcI K C fI "part") (gE : mg "BadMachine" = some (.ref C)) {tk : Tok} (hmost : mg "MOST_STATES" = some (.int 999 tk))
    (FN : Fun K "is_number" "is_number" sNum fN fdN) (gN : mg "is_number" = some (.ref fN)) (bN : Binds K fdN ["thing"] [])
    (FS : Fun K "is_state" "is_state" sState fS fdS) (gS : mg "is_state" = some (.ref fS)) (bS : Binds K fdS ["thing", "size"] [])
    (FC : Fun K "check_moves" "check_moves" sMoves fC fdC) (gC : mg "check_moves" = some (.ref fC)) (bC : Binds K fdC ["size", "moves"] []) (GCx : FnOk P w K mg base (L2.CX P w) 4 fC fdC ["size", "moves"] (spMovesX K C)) :
    FnOk P w K mg base (L2.CX P w) 5 f fd ["size", "first", "last", "moves"] (spCheckY K C) := by
  have GN : FnOk P w K mg base CX0 4 fN fdN ["thing"] (spNumD K) := (ok_numD FN T).mono (by decide)
  have GS : FnOk P w K mg base CX0 4 fS fdS ["thing", "size"] (spStateD K) := (ok_stateD FS T FN gN bN).mono (by decide)
  refine F.okX scK (fun vs H Q E h => ?_) (fun cdv A outer s H vs Q E hr h => ?_)
  · obtain ⟨v0, v1, v2, v3, d0, d1, d2, d3, p, rfl, _⟩ := h
    rfl
  · obtain ⟨v0, v1, v2, v3, d0, d1, d2, d3, p, rfl, h0, h1, h2, h3, hw, bad, nb, k⟩ := h
    refine ⟨_, (pss_cons (ps_if (PW.pt (pw_or (pt_not (pt_val (pe_call GN hr rfl gN FN.kp bN .nil pass0 (pa_cons (pv 0) pa_nil)))) (pw_or1 (pt_not (pt_chain op_le op_le pe_int (pv 0) (pe_glob (v := .int 999) (by rfl) hmost ⟨_, rfl⟩)))))) (pss_one (ps_raise rfl (takes_of rfl rfl rfl rfl) (pmk_E TK TU gE hr (pa_cons pe_str pa_nil)))) pss_nil)
        (pss_cons (ps_if (pt_not (pt_val (pe_call GS hr rfl gS FS.kp bS .nil pass0 (pa_cons (pv 1) (pa_cons (pv 0) pa_nil))))) (pss_one (ps_raise rfl (takes_of rfl rfl rfl rfl) (pmk_E TK TU gE hr (pa_cons pe_str pa_nil)))) pss_nil)
        (pss_cons (ps_if (pt_not (pt_val (pe_call GS hr rfl gS FS.kp bS .nil pass0 (pa_cons (pv 2) (pa_cons (pv 0) pa_nil))))) (pss_one (ps_raise rfl (takes_of rfl rfl rfl rfl) (pmk_E TK TU gE hr (pa_cons pe_str pa_nil)))) pss_nil)
        (pss_cons (ps_expr (pe_call GCx hr rfl gC FC.kp bC .nil (passes_call (takes_of rfl rfl rfl rfl) fun _ _ _ _ h => h) (pa_cons (pv 0) (pa_cons (pv 3) pa_nil))))
        (pss_cons ps_never (pss_cons ps_never (pss_one ps_never))))))), ?_⟩
    refine ⟨_, rfl, v0, d0, rfl, h0, _, rfl, ?_⟩
    have out : ∀ z : Str, p = .str z → ∀ (e : Addr), H e = none → E (.ref C) (some e) (upd H e (.xd [("part", .str z)])) := fun z hz e he => k e _ _ (same_up he) he upd_same (by rw [hz]; exact .str _)
    by_cases sz : ∀ i, d0 = .int i → ¬ (1 ≤ i ∧ i ≤ 999)
    · have ep : p = .str "size" := by
        cases bad with
        | size => rfl
        | first n _ _ _ a b c => exact absurd ⟨by omega, by omega⟩ (sz _ rfl)
        | last n _ _ _ a b c => exact absurd ⟨by omega, by omega⟩ (sz _ rfl)
        | moves n _ _ _ _ a b => exact absurd ⟨by omega, by omega⟩ (sz _ rfl)
        | bad n st la ms b pre bd => exact absurd ⟨n, st, la, ms, b, pre, bd, rfl, rfl, rfl, rfl, rfl⟩ nb
      cases hn : isNum d0 with
      | false =>
        refine iteT ?_
        exact ⟨_, rfl, out _ ep⟩
      | true =>
        obtain ⟨i, rfl⟩ := isNum_int hn
        obtain rfl := dr_int h0
        refine iteF ?_
        refine ⟨_, rfl, _, _, rfl, rfl, _, rfl, ?_⟩
        by_cases i1 : (1 : Int) ≤ i
        · rw [decide_eq_true i1]
          refine iteT ?_
          refine ⟨_, _, rfl, rfl, _, rfl, ?_⟩
          rw [decide_eq_false (show ¬ i ≤ 999 from fun z => sz i rfl ⟨i1, z⟩)]
          refine iteT ?_
          exact ⟨_, rfl, out _ ep⟩
        · rw [decide_eq_false i1]
          refine iteF ?_
          refine ⟨false, rfl, ?_⟩
          refine iteT ?_
          exact ⟨_, rfl, out _ ep⟩
    · obtain ⟨n, rfl, n1, n2⟩ : ∃ n : Nat, d0 = .int (n : Int) ∧ 1 ≤ n ∧ n ≤ 999 := by
        have := Classical.not_forall.mp sz
        obtain ⟨i, hi⟩ := this
        have ⟨e, c⟩ := Classical.not_imp.mp hi
        have c := Classical.not_not.mp c
        exact ⟨i.toNat, by rw [e, Int.toNat_of_nonneg (by omega)], by omega, by omega⟩
      obtain rfl := dr_int h0
      refine iteF ?_
      refine ⟨_, rfl, _, _, rfl, rfl, _, rfl, ?_⟩
      rw [decide_eq_true (show (1 : Int) ≤ (n : Int) from Int.ofNat_le.mpr n1)]
      refine iteT ?_
      refine ⟨_, _, rfl, rfl, _, rfl, ?_⟩
      refine iteNS (show (n : Int) ≤ 999 by omega) ?_
      refine ⟨_, rfl, _, rfl, _, d1, _, rfl, h1, _, rfl, ?_⟩
      cases i1 : isPl d1 (n : Int) with
      | false =>
        refine iteT ?_
        have ep : p = .str "first" := by
          cases bad with
          | size _ _ _ _ c => exact absurd ⟨by omega, by omega⟩ (c _ rfl)
          | first n _ _ _ a b c => rfl
          | last n _ _ _ a b c => rw [i1] at c; cases c
          | moves n st la _ _ a b c => rw [pl_at c] at i1; cases i1
          | bad n st la ms b pre bd => exact absurd ⟨n, st, la, ms, b, pre, bd, rfl, rfl, rfl, rfl, rfl⟩ nb
        exact ⟨_, rfl, out _ ep⟩
      | true =>
        refine iteF ?_
        refine ⟨_, rfl, _, rfl, _, d2, _, rfl, h2, _, rfl, ?_⟩
        cases i2 : isPl d2 (n : Int) with
        | false =>
          refine iteT ?_
          have ep : p = .str "last" := by
            cases bad with
            | size _ _ _ _ c => exact absurd ⟨by omega, by omega⟩ (c _ rfl)
            | first n _ _ _ a b c => rw [i1] at c; cases c
            | last n _ _ _ a b c => rfl
            | moves n st la _ _ a b c d => rw [pl_at d] at i2; cases i2
            | bad n st la ms b pre bd => exact absurd ⟨n, st, la, ms, b, pre, bd, rfl, rfl, rfl, rfl, rfl⟩ nb
          exact ⟨_, rfl, out _ ep⟩
        | true =>
          refine iteF ?_
          have wm : WrongM n d3 p := by
            cases bad with
            | size _ _ _ _ c => exact absurd ⟨by omega, by omega⟩ (c _ rfl)
            | first n _ _ _ a b c => rw [i1] at c; cases c
            | last n _ _ _ a b c d => rw [i2] at d; cases d
            | moves n st la _ _ a b c d e => exact e
            | bad n st la ms b pre bd => exact absurd ⟨n, st, la, ms, b, pre, bd, rfl, rfl, rfl, rfl, rfl⟩ nb
          exact ⟨_, rfl, _, rfl, n, v3, d3, p, rfl, h3, hw, wm, k⟩
def spCheckX (K : PySem.W.Frag) (C : Addr) : Sp := fun vs H _ E => ∃ (v0 v1 v2 v3 : V) (d0 d1 d2 d3 p : PyData), vs = [v0, v1, v2, v3] ∧ Dr K H v0 d0 ∧ Dr K H v1 d1 ∧ Dr K H v2 d2 ∧ Dr K H v3 d3 ∧ wt d3 ≤ 4000 ∧ WrongP d0 d1 d2 d3 p ∧ OutD K C p H E
theorem ok_checkX {f C : Addr} {fd : FuncData} (A : FnOk P w K mg base (L2.CX P w) 5 f fd ["size", "first", "last", "moves"] (spCheckY K C)) (B : FnOk P w K mg base (L2.CX P w) 5 f fd ["size", "first", "last", "moves"] (spCheckG K C)) :
    FnOk P w K mg base (L2.CX P w) 5 f fd ["size", "first", "last", "moves"] (spCheckX K C) := by
  refine (Vk.FnOk.or A B).imp fun vs H Q E h => ?_
  obtain ⟨v0, v1, v2, v3, d0, d1, d2, d3, p, rfl, h0, h1, h2, h3, hw, bad, k⟩ := h
  by_cases nb : IsBad d0 d1 d2 d3 p
  · obtain ⟨n, st, la, ms, b, pre, bd, rfl, rfl, rfl, rfl, rfl⟩ := nb
    right
    obtain rfl := dr_int h0
    obtain rfl := dr_int h1
    obtain rfl := dr_int h2
    obtain ⟨l, xs, rfl, hs, ha⟩ := dr_tup h3
    obtain ⟨qs, rfl, rfl, hq⟩ := dr_mvs ha
    exact ⟨n, st, la, l, qs, b, rfl, ⟨hs, hq⟩, pre, bd, fun d v H' S hn hx pay => k d v H' S hn hx (dr_pay pay)⟩
  · exact .inl ⟨v0, v1, v2, v3, d0, d1, d2, d3, p, rfl, h0, h1, h2, h3, hw, bad, nb, k⟩
def spInitX (K : PySem.W.Frag) (C : Addr) : Sp := fun vs H _ E => ∃ (a : Addr) (v0 v1 v2 v3 : V) (d0 d1 d2 d3 p : PyData), vs = [.ref a, v0, v1, v2, v3] ∧ Dr K H v0 d0 ∧ Dr K H v1 d1 ∧ Dr K H v2 d2 ∧ Dr K H v3 d3 ∧ wt d3 ≤ 4000 ∧ WrongP d0 d1 d2 d3 p ∧ OutD K C p H E
theorem ok_initX {f fK C : Addr} {fd fdK : FuncData} (F : Fun K "__init__" "Machine.__init__" sInit f fd) (FK : Fun K "check_machine" "check_machine" sCheck fK fdK) (gK : mg "check_machine" = some (.ref fK)) (bK : Binds K fdK ["size", "first", "last", "moves"] [])
    (GK : FnOk P w K mg base (L2.CX P w) 5 fK fdK ["size", "first", "last", "moves"] (spCheckX K C)) : FnOk P w K mg base (L2.CX P w) 6 f fd ["self", "size", "first", "last", "moves"] (spInitX K C) := by
  refine F.okX scI (fun vs H Q E h => ?_) (fun cdv A outer s H vs Q E hr h => ?_)
  · obtain ⟨a, v0, v1, v2, v3, d0, d1, d2, d3, p, rfl, _⟩ := h
    rfl
  · obtain ⟨a, v0, v1, v2, v3, d0, d1, d2, d3, p, rfl, h0, h1, h2, h3, hw, bad, k⟩ := h
    refine ⟨_, (pss_cons (ps_expr (pe_call GK hr rfl gK FK.kp bK .nil (passes_call (takes_of rfl rfl rfl rfl) fun _ _ _ _ h => h) (pa_cons (pv 1) (pa_cons (pv 2) (pa_cons (pv 3) (pa_cons (pv 4) pa_nil))))))
      (pss_cons ps_never (pss_cons ps_never (pss_cons ps_never (pss_cons ps_never (pss_cons ps_never (pss_cons ps_never (pss_one ps_never)))))))), ?_⟩
    exact ⟨_, rfl, _, rfl, _, rfl, _, rfl, v0, v1, v2, v3, d0, d1, d2, d3, p, rfl, h0, h1, h2, h3, hw, bad, k⟩
end
end Vk
set_option Elab.async false
set_option linter.all false
set_option maxRecDepth 100000
set_option maxHeartbeats 4000000
namespace Vk
open PySem PySem.Spec PyProof.Rows L2
open AutoSeq1 (wpAny_loadPart')
open Sem (wp)
theorem meets_enumerate_newT (l : Addr) (items : Array Value) (n : Nat) (dct : Option Addr) (sl : Array (Option Value)) :
    Meets (Builtin.«enumerate.__new__» ⟨[.type "enumerate", .ref l], []⟩) (fun _ R s => s.heap.get? l = some { cls := .type "tuple", dict := dct, data := .seq items n, slots := sl } ∧
      R (.ok (.ret (.ref (s.heap.push { cls := .type "tuple_iterator", data := .fields #[.ref l, .int 0 0] }).objs.size)))
        { s with heap := (s.heap.push { cls := .type "tuple_iterator", data := .fields #[.ref l, .int 0 0] }).push { cls := .type "enumerate", data := .fields #[.none, .bool false, .ref s.heap.objs.size, rawInt 0, .none, .none] } }) :=
  .of_wp fun prog w A R s h => by
    obtain ⟨hp, g, d, tk, os⟩ := s; obtain ⟨hl, h⟩ := h
    have hsub := sub_enumerate
    have hL : Heap.IsTuple (Shared.heap ⟨hp, g, d, tk, os⟩) l items := ⟨_, hl, rfl, n, rfl⟩
    wp_walk using wpAny_loadPart' hl
    refine wpAny_stack_any fun st => wpAny_pure ?_
    split
    · rename_i c _ _ _ _ _
      cases (c == Value.type "enumerate")
      · wp_walk using wpAny_loadPart' hl, wpAny_pyIter_tuple hL
        exact ⟨_, rfl, h⟩
      · wp_walk using wpAny_loadPart' hl, wpAny_pyIter_tuple hL
        exact ⟨_, rfl, h⟩
    · wp_walk using wpAny_loadPart' hl, wpAny_pyIter_tuple hL
      exact ⟨_, rfl, h⟩
section
variable {prog : Program} {w : World} {A : Around} {E : Value → Shared → Prop} {s : Shared}
theorem call_enumerate_tup {l : Addr} {items : Array Value} {Q : Value → Shared → Prop} (hL : s.heap.IsTuple l items)
    (h : ∀ h', IsEnum h' (s.heap.objs.size + 1) s.heap.objs.size 0 .none → h'.IsTupleIter s.heap.objs.size l 0 → h'.objs.size = s.heap.objs.size + 2 →
      (∀ b o, s.heap.get? b = some o → h'.get? b = some o) → Q (.ref (s.heap.objs.size + 1)) { s with heap := h' }) :
    wpAny (model prog w) A (call (.type "enumerate") [.ref l]) Q E s := by
  obtain ⟨⟨c, dct, dt, sl⟩, hl, hc, n, hd⟩ := hL
  replace hc : c = .type "tuple" := hc
  replace hd : dt = .seq items n := hd
  subst hc hd
  refine callType_new F.called_enumerate (by decide) (F.typeCall_enumerate_1 _) (F.newCall_enumerate_1 _) (fun obj => F.args_object_init_2 obj _) F.entry_enumerate_new
    (meets_enumerate_newT l items n dct sl) ⟨hl, ?_⟩
  have hz : (s.heap.push { cls := .type "tuple_iterator", data := .fields #[.ref l, .int 0 0] }).objs.size = s.heap.objs.size + 1 := Heap.size_push ..
  show _ ∧ _
  rw [hz]
  have he : IsEnum ((s.heap.push { cls := .type "tuple_iterator", data := .fields #[.ref l, .int 0 0] }).push
      { cls := .type "enumerate", data := .fields #[.none, .bool false, .ref s.heap.objs.size, rawInt 0, .none, .none] }) (s.heap.objs.size + 1) s.heap.objs.size 0 .none := by
    have := Heap.get?_push_size (s.heap.push { cls := .type "tuple_iterator", data := .fields #[.ref l, .int 0 0] })
      (o := { cls := .type "enumerate", data := .fields #[.none, .bool false, .ref s.heap.objs.size, rawInt 0, .none, .none] }) rfl
    rw [hz] at this; exact this
  refine ⟨⟨_, he, rfl⟩, h _ he ⟨_, Heap.get?_push_of_some _ (Heap.get?_push_size _ rfl), rfl, rfl⟩ (by rw [Heap.size_push, hz]) fun b o x => Heap.get?_push_of_some _ (Heap.get?_push_of_some _ x)⟩
end
/-- the tuple at a, each item in a new pair -/
def IteT (K : PySem.W.Frag) (a : Addr) : It :=
  ⟨fun i H => ∃ (xs : List V) (x : V), SqT K H a xs ∧ xs[i]? = some x, fun i H v H' => ∃ T x, v = .ref T ∧ H T = none ∧ H' = upd H T (.tup [.int (i : Nat), x]) ∧ ∀ xs, SqT K H a xs → xs[i]? = some x, fun i H => ∃ xs : List V, SqT K H a xs ∧ xs.length ≤ i⟩
theorem turn_enumT {P : Program} {w : World} {K : PySem.W.Frag} {elts : List Expr} {kk : Nat} {tpos : Pos} (a e it : Addr) :
    Turn P w K (.Tuple elts kk tpos) (IteT K a) [e, it] e (fun i h => (∃ old, IsEnum h e it ((i : Nat) : Int) old) ∧ h.IsTupleIter it a i ∧ e ≠ it) where
  mem := by simp
  obj := fun i h st b hb => by
    obtain ⟨⟨old, he⟩, ⟨o, ho, hc, hd⟩, _⟩ := st
    have e' : b = e ∨ b = it := by simpa using hb
    rcases e' with z | z
    · rw [z]; exact ⟨_, he, fun v q => nomatch q⟩
    · rw [z]; exact ⟨o, ho, fun v q => by rw [hd] at q; cases q⟩
  keep := fun i h h' st k => let ⟨⟨old, he⟩, hi, hne⟩ := st; ⟨⟨old, k e (by simp) _ he⟩, hi.at fun o q => k it (by simp) o q, hne⟩
  item := by
    intro X hP hw hK hc i pins s σ H E I hf st hg
    subst hP hw hK
    obtain ⟨⟨old, he⟩, hit, hne⟩ := st
    obtain ⟨xs, x, hq, hx⟩ := hg
    obtain ⟨its, rv, p, hz⟩ := I.tuple hq
    obtain ⟨u, hu, ru⟩ := rv.get hx
    have p' : s.heap.IsTuple a its.toArray := p
    have hel : e < s.heap.objs.size := Heap.lt_size he
    have hil : it < s.heap.objs.size := by obtain ⟨_, q, _⟩ := hit; exact Heap.lt_size q
    have hia : a ≠ it := fun z => by
      obtain ⟨o, ho, hc1, _⟩ := hit
      obtain ⟨o2, ho2, hc2, _⟩ := p'
      rw [z, ho] at ho2
      cases ho2
      rw [hc1] at hc2
      exact absurd hc2 (by decide)
    have hea : e ≠ a := fun z => by
      obtain ⟨o2, ho2, hc2, _⟩ := p'
      have he' : s.heap.get? e = some _ := he
      rw [← z, he'] at ho2
      cases ho2
      have hc3 : Value.type "enumerate" = Value.type "tuple" := hc2
      exact absurd hc3 (by decide)
    have D := Draws.tuple (prog := X.prog) (w := X.w) (A := X.A.in1) (I.ok.hd hc) it a hia its.toArray
    refine wpAny_pyNext_enum_itemD D he ⟨hit, p'⟩ (by
      have := (List.getElem?_eq_some_iff.mp hu).1
      simpa using this) hne (by simp [hne, hea]) fun u' h' tk hu' ho hit2 hT hsz hk => ?_
    have eu : u' = u := by
      have : its.toArray[i]? = some u := by simpa using hu
      exact Option.some.inj ((show its.toArray[i]? = some u' from hu').symm.trans this)
    subst eu
    obtain ⟨hit', _⟩ := hit2
    refine ⟨_, rfl, wpAny_letOwnedTupleGo_enum (s := { s with heap := h', toks := tk + 1 }) ho fun h'' he' sb => ?_⟩
    have hT2 : h''.get? s.heap.objs.size = some { cls := .type "tuple", data := .seq #[.int i tk, u'] } := (sb.2 _ (Nat.ne_of_gt hel)).trans hT
    have new : ObjOk X.prog X.w (upd H s.heap.objs.size (.tup [.int (i : Nat), x])) h'' s.heap.objs.size (.tup [.int (i : Nat), x]) :=
      ⟨by show 2 ≤ sizeLine; decide, [.int i tk, u'], .cons ⟨_, rfl⟩ (.cons ru .nil), ⟨_, hT2, rfl, _, rfl⟩⟩
    have I1 : Inv X pins σ (upd H s.heap.objs.size (.tup [.int (i : Nat), x])) { s with heap := h'', toks := tk + 1 } :=
      I.turnedNew (ch := [e, it]) (fun b ob hb q => (sb.2 b (fun z => hb (by simp [z]))).trans (hk b ob (fun z => hb (by simp [z])) (fun z => hb (by simp [z])) q)) hf (Nat.le_refl _) new
    refine ⟨.ref s.heap.objs.size, _, I1, rfl, ⟨_, x, rfl, I.hok.fresh (Nat.le_refl _), rfl, fun ys hy => by rw [I.tuple_inj hy hq]; exact hx⟩, ⟨⟨u', ?_⟩, hit'.at fun o q => (sb.2 it (Ne.symm hne)).trans q, hne⟩, fun b hb => ?_⟩
    · have e1 : ((i + 1 : Nat) : Int) = (i : Int) + 1 := by omega
      rw [e1]; exact he'
    · have hb' : b < s.heap.objs.size := by
        have e' : b = e ∨ b = it := by simpa using hb
        rcases e' with z | z
        · rw [z]; exact hel
        · rw [z]; exact hil
      rw [upd_ne (Nat.ne_of_lt hb')]
      exact (hf b hb).1
  done := by
    intro X hP hw hK hc i pins s σ H E I hf st hg
    subst hP hw hK
    obtain ⟨⟨old, he⟩, hit, hne⟩ := st
    obtain ⟨xs, hq, hx⟩ := hg
    obtain ⟨its, rv, p, hz⟩ := I.tuple hq
    have p' : s.heap.IsTuple a its.toArray := p
    obtain ⟨f0, f1, f2, f3, f4, f5⟩ := hf it (by simp)
    have hl := rv.length
    have go : ∀ h', Heap.ExtBut it s.heap h' → (none : Option Value) = none ∧ Inv X pins σ H { s with heap := h' } := fun h' eb => ⟨rfl, I.turned (t' := s.toks) (fun b o hb q => eb b o hb q) f0 f1 f3 f4 f5⟩
    have hT : s.TypeIs (.ref e) "enumerate" := ⟨_, he, rfl⟩
    unfold pyNext
    refine wpAny_bind (wpAny_attempt (wpAny_callSpecial?_slot (name := Str.ofString "__next__") hT F.slot_enumerate_next
      (wpAny_call_entry F.slot_enumerate_next hT F.entry_enumerate_next ?_ (F.args_enumerate_next_1 _))))
    show wpAny _ _ (field (.ref e) 2 >>= _) _ _ _
    refine wpAny_bind (wpAny_field he rfl (x := .ref it) rfl ?_)
    refine wpAny_bind (wpAny_nextOf_tuple_end (I.ok.hd hc) hit p' (by simp; omega) fun h' x he' hx' => ?_)
    obtain ⟨o, ho, hc⟩ := hx'
    refine wpAny_bind (wpAny_isInstance (T := "StopIteration") (b := true) ⟨o, ho, hc⟩ isSubtype_stop ?_)
    exact wpAny_pure (go _ he')
  self := fun A i s Q E st h => let ⟨⟨_, he⟩, _⟩ := st; wpAny_pyIter_enum he h
def iEnumT (K : PySem.W.Frag) (ta : TA) : TI := fun σ H R => ta σ H fun vs H1 => ∃ a xs, vs = [.ref a] ∧ SqT K H1 a xs ∧ R (IteT K a) H1
theorem pi_enumT {X : Cx} {e : Expr} {ta : TA} {p pos tpos : Pos} {elts : List Expr} {kk : Nat} (hg : Gl X "enumerate") (hm : X.mg "enumerate" = none) (ha : PA X [e] ta) (hs : starEach [e] X.env = [(false, eval e X.env)] := by rfl) :
    PI X (.Tuple elts kk tpos) (.Call (.Name "enumerate" p) [e] [] pos) (iEnumT X.K ta) := by
  refine ⟨fun pins s σ H R I h => ?_⟩
  refine Call_ (ld_blt I hg hm boot_enumerate (PyProof.Rows.callWith_type1 (thn (ha.run pos pins s σ H _ I h) fun us s1 ⟨vs, H1, I1, r1, q1⟩ => ?_) hs rfl))
  obtain ⟨a, xs, ex, hq, q⟩ := q1
  subst ex
  cases r1 with
  | cons r rr =>
    cases rr
    cases r
    obtain ⟨its, rv, p', hz⟩ := I1.tuple hq
    refine call_enumerate_tup (show s1.heap.IsTuple a its.toArray from p') fun h' he hit hsz hk => wpAny_pyIter_enum he ?_
    have I2 : Inv X pins σ H1 { s1 with heap := h' } := I1.kept (t' := s1.toks) hk
    refine ⟨s1.heap.objs.size + 1, [s1.heap.objs.size + 1, s1.heap.objs.size], _, _, H1, rfl, I2, turn_enumT a (s1.heap.objs.size + 1) s1.heap.objs.size, ⟨⟨.none, he⟩, hit, Nat.succ_ne_self _⟩, fun b hb => ?_, q⟩
    have e' : b = s1.heap.objs.size + 1 ∨ b = s1.heap.objs.size := by simpa using hb
    have hle : s1.heap.objs.size ≤ b := by
      rcases e' with z | z
      · rw [z]; exact Nat.le_add_right _ _
      · rw [z]; exact Nat.le_refl _
    exact I1.fpOk hle (I1.hok.fresh hle)
theorem lc_enumT {K : PySem.W.Frag} {a : Addr} {xs : List V} {g : TG} {tt : TT} {te : TE} {vs : List Nat} {σ : L2.St} {H1 : Hp} {D : Addr} {Qd : Hp → Prop} (Pv : Nat → Hp → Prop) (h0 : Pv 0 (upd H1 D (.lst []))) (hl : ∀ i H, i ≤ xs.length → Pv i H → SqT K H a xs)
    (hs : ∀ i x H T, xs[i]? = some x → H T = none → Pv i H → g (.ref T) (wipe σ vs) (upd H T (.tup [.int (i : Nat), x])) fun σ2 H2 => wipe σ2 vs = wipe σ vs ∧ tt σ2 H2 fun b H3 =>
      if b = true then te σ2 H3 fun y H4 => ∃ acc, H4 D = some (.lst acc) ∧ acc.length < sizeLine ∧ Pv (i + 1) (upd H4 D (.lst (acc ++ [y]))) else Pv (i + 1) H3) (hd : ∀ H, Pv xs.length H → Qd H) :
    ∃ W : Nat → Nat → Hp → Prop, (∃ m, W 0 m (upd H1 D (.lst []))) ∧ ∀ i m H, W i m H →
      ((IteT K a).stop i H ∧ Qd H) ∨ ((IteT K a).go i H ∧ ∃ Nx : Hp → Prop, (∀ H', Nx H' → ∃ m', m' < m ∧ W (i + 1) m' H') ∧ ∀ x H', (IteT K a).yld i H x H' → g x (wipe σ vs) H' fun σ2 H2 => wipe σ2 vs = wipe σ vs ∧ tt σ2 H2 fun b H3 =>
        if b = true then te σ2 H3 fun y H4 => ∃ acc, H4 D = some (.lst acc) ∧ acc.length < sizeLine ∧ Nx (upd H4 D (.lst (acc ++ [y]))) else Nx H3) := by
  refine ⟨fun i m H => m = xs.length - i ∧ i ≤ xs.length ∧ Pv i H, ⟨xs.length, by simp, Nat.zero_le _, h0⟩, ?_⟩
  rintro i m H ⟨rfl, hi, p⟩
  have q := hl i H hi p
  by_cases hlt : i < xs.length
  · refine .inr ⟨⟨xs, xs[i], q, by simp [hlt]⟩, Pv (i + 1), fun H' p' => ⟨xs.length - (i + 1), by omega, rfl, hlt, p'⟩, fun v H' y => ?_⟩
    obtain ⟨T, x, rfl, nT, rfl, y⟩ := y
    exact hs i x _ T (y xs q) nT p
  · have e : i = xs.length := by omega
    subst e
    exact .inl ⟨⟨xs, q, Nat.le_refl _⟩, hd H p⟩
end Vk
set_option Elab.async false
set_option linter.all false
set_option maxRecDepth 100000
set_option maxHeartbeats 4000000
namespace Vk
open PySem PySem.Spec PyProof.Rows L2 Vt PySem.Vx Vs1 ClX
abbrev sLNumb : Stmt := top8 67
abbrev sLPlace : Stmt := top8 68
abbrev sLMove : Stmt := top8 69
abbrev sLTwice : Stmt := top8 70
def lcScope : Stmt → Scope
  | .Return (some (.ListComp _ _ sc _)) _ => sc
  | s => defScope s
abbrev scTw : Scope := match defBody sLTwice with
  | s :: _ => lcScope s
  | [] => defScope sLTwice
section
variable {P : Program} {w : World} {K : PySem.W.Frag} {mg : Str → Option Value} {base : Heap}
theorem scLN : FnScope ["_law_it"] ["_law_it"] (defScope sLNumb) := ⟨rfl, rfl, rfl, by decide +kernel, rfl, by decide +kernel, by decide +kernel⟩
theorem scLP : FnScope ["_law_it", "_law_wide"] ["_law_it", "_law_wide"] (defScope sLPlace) := ⟨rfl, rfl, rfl, by decide +kernel, rfl, by decide +kernel, by decide +kernel⟩
theorem scLM : FnScope ["_law_it", "_law_wide"] ["_law_it", "_law_wide"] (defScope sLMove) := ⟨rfl, rfl, rfl, by decide +kernel, rfl, by decide +kernel, by decide +kernel⟩
theorem scLT : FnScope ["_law_ways", "_law_at", "_law_k", "_law_it", "_law_far"] ["_law_ways", "_law_at"] (defScope sLTwice) := ⟨rfl, rfl, rfl, by decide +kernel, rfl, by decide +kernel, by decide +kernel⟩
theorem ok_lnum {f : Addr} {fd : FuncData} (F : Fun K "_law_is_number" "_law_is_number" sLNumb f fd) (T : Txt8 K mg) : FnOk P w K mg base CX0 1 f fd ["_law_it"] (spNumD K) := by
  refine F.ok scLN (fun vs H Q E h => ?_) (fun cdv A outer s H vs Q E hr h => ?_)
  · obtain ⟨v, d, rfl, _⟩ := h
    rfl
  · obtain ⟨v, d, rfl, hd, k⟩ := h
    refine ⟨_, (pss_one (ps_ret (pe_and (pe_callB call_isi (by rfl) T.isi (by decide +kernel) (pa_cons (pv 0) (pa_cons (pe_bltn (v := .ty "int") (by rfl) T.int (by decide +kernel) rfl) pa_nil))) (pe_one (pe_not (pe_callB call_isi (by rfl) T.isi (by decide +kernel) (pa_cons (pv 0) (pa_cons (pe_bltn (v := .ty "bool") (by rfl) T.bool (by decide +kernel) rfl) pa_nil)))))))), ?_⟩
    rw [num_kit] at k
    refine ⟨_, rfl, _, _, _, _, kitI d, rfl, .ty "int", tyX_dr hd, kit_int d, _, rfl, ?_⟩
    cases hI : kitI d with
    | false =>
      rw [hI] at k
      refine iteF ?_
      exact k
    | true =>
      rw [hI] at k
      refine iteT ?_
      refine ⟨_, rfl, _, _, _, _, kitBo d, rfl, .ty "bool", tyX_dr hd, kit_bool d, _, rfl, ?_⟩
      exact k
theorem ok_lplace {f fN : Addr} {fd fdN : FuncData} (F : Fun K "_law_is_place" "_law_is_place" sLPlace f fd)
    (GN : FnOk P w K mg base CX0 1 fN fdN ["_law_it"] (spNumD K)) (gN : mg "_law_is_number" = some (.ref fN)) (kN : PySem.W.keepIn K (.ref fN) = true) (bN : Binds K fdN ["_law_it"] []) : FnOk P w K mg base CX0 2 f fd ["_law_it", "_law_wide"] (spStateD K) := by
  refine F.ok scLP (fun vs H Q E h => ?_) (fun cdv A outer s H vs Q E hr h => ?_)
  · obtain ⟨v, d, n, rfl, _⟩ := h
    rfl
  · obtain ⟨v, d, n, rfl, hd, k⟩ := h
    refine ⟨_, (pss_one (ps_ret (pe_and (pe_call GN hr rfl gN kN bN .nil pass0 (pa_cons (pv 0) pa_nil)) (pe_one (pe_chain op_le op_lt pe_int (pv 0) (pv 1)))))), ?_⟩
    refine ⟨_, rfl, v, d, rfl, hd, _, rfl, ?_⟩
    cases hn : isNum d with
    | false =>
      rw [isPl_no hn] at k
      refine iteF ?_
      exact k
    | true =>
      obtain ⟨i, rfl⟩ := isNum_int hn
      obtain rfl := dr_int hd
      have k : Q (.bl (decide (0 ≤ i) && decide (i < n))) H := k
      refine iteT ?_
      refine ⟨_, rfl, _, _, rfl, rfl, _, rfl, ?_⟩
      by_cases h1 : 0 ≤ i
      · rw [decide_eq_true h1]
        refine iteT ?_
        refine ⟨_, rfl, _, _, rfl, rfl, ?_⟩
        rw [decide_eq_true h1] at k
        exact k
      · rw [decide_eq_false h1]
        refine iteF ?_
        rw [decide_eq_false h1] at k
        exact k
theorem ok_lmove {f fP : Addr} {fd fdP : FuncData} (F : Fun K "_law_is_move" "_law_is_move" sLMove f fd) (T : Txt8 K mg)
    (GP : FnOk P w K mg base CX0 2 fP fdP ["_law_it", "_law_wide"] (spStateD K)) (gP : mg "_law_is_place" = some (.ref fP)) (kP : PySem.W.keepIn K (.ref fP) = true) (bP : Binds K fdP ["_law_it", "_law_wide"] []) : FnOk P w K mg base CX0 3 f fd ["_law_it", "_law_wide"] (spMoveD K) := by
  refine F.ok scLM (fun vs H Q E h => ?_) (fun cdv A outer s H vs Q E hr h => ?_)
  · obtain ⟨v, d, n, rfl, _⟩ := h
    rfl
  · obtain ⟨v, d, n, rfl, hd, hw, k⟩ := h
    refine ⟨_, (pss_cons (ps_if (PW.pt (pw_or (pt_not (pt_val (pe_callB call_isi (by rfl) T.isi (by decide +kernel) (pa_cons (pv 0) (pa_cons (pe_bltn (v := .ty "tuple") (by rfl) T.tup (by decide +kernel) rfl) pa_nil))))) (pw_or (pt_cmpR op_ne (pe_callB call_len (by rfl) T.len PySem.boot_len (pa_cons (pv 0) pa_nil)) pe_int (nomark _)) (pw_or (pt_not (pt_val (pe_call GP hr rfl gP kP bP .nil pass0 (pa_cons (pe_ix ix_tup (pv 0) pe_int (fun _ _ => rfl)) (pa_cons (pv 1) pa_nil))))) (pw_or1 (pt_not (pt_val (pe_call GP hr rfl gP kP bP .nil pass0 (pa_cons (pe_ix ix_tup (pv 0) pe_int (fun _ _ => rfl)) (pa_cons (pv 1) pa_nil)))))))))) (pss_one (ps_ret pe_bl)) pss_nil)
        (pss_one (ps_ret (pe_and (pe_callB call_isi (by rfl) T.isi (by decide +kernel) (pa_cons (pe_ix ix_tup (pv 0) pe_int (fun _ _ => rfl)) (pa_cons (pe_bltn (v := .ty "str") (by rfl) T.str (by decide +kernel) rfl) pa_nil))) (pe_and (pe_cmpR op_eq (pe_callB call_len_str (by rfl) T.len PySem.boot_len (pa_cons (pe_ix ix_tup (pv 0) pe_int (fun _ _ => rfl)) pa_nil)) pe_int (nomark _)) (pe_one (pe_chain op_le_str op_le_str pe_str (pe_ix ix_tup (pv 0) pe_int (fun _ _ => rfl)) pe_str))))))), ?_⟩
    refine ⟨_, rfl, _, _, _, _, kitT d, rfl, .ty "tuple", tyX_dr hd, kit_tup d, _, rfl, ?_⟩
    cases d with
    | tuple ds =>
      refine iteF ?_
      obtain ⟨a, xs, rfl, hs, ha⟩ := dr_tup hd
      have lx := ha.length
      refine ⟨_, rfl, _, xs.length, rfl, .inr ⟨_, hs, rfl⟩, rfl, _, rfl, ?_⟩
      by_cases l3 : ds.length = 3
      rotate_left
      · have e : (!decide (V.int (xs.length : Int) = V.int 3)) = true := by
          rw [decide_eq_false (show ¬ V.int (xs.length : Int) = V.int 3 from fun e => l3 (by have := V.int.inj e; omega))] <;> rfl
        rw [e]
        refine iteT ?_
        rw [isMv_len l3] at k
        exact k
      have e : (!decide (V.int (xs.length : Int) = V.int 3)) = false := by
        rw [decide_eq_true (show V.int (xs.length : Int) = V.int 3 by rw [lx, l3] <;> rfl)] <;> rfl
      rw [e]
      refine iteF ?_
      rcases ds with _ | ⟨d0, _ | ⟨d1, _ | ⟨d2, _ | ⟨d, r⟩⟩⟩⟩
      · cases l3
      · cases l3
      · cases l3
      · cases ha with
        | cons h0 ha =>
          cases ha with
          | cons h1 ha =>
            cases ha with
            | cons h2 ha =>
              cases ha with
              | nil =>
                have k : Q (.bl (isPl d0 n && (isLet d1 && isPl d2 n))) H := k
                have w1 : wt d1 ≤ 1000000 := by
                  have e : wt (.tuple [d0, d1, d2]) = (wt d0 + (wt d1 + (wt d2 + 0))) + 1 := rfl
                  omega
                refine ⟨_, rfl, a, _, _, _, rfl, rfl, hs, rfl, _, rfl, _, d0, n, rfl, h0, _, rfl, ?_⟩
                cases b0 : isPl d0 n with
                | false =>
                  rw [b0] at k
                  exact iteT k
                | true =>
                  rw [b0] at k
                  refine iteF ?_
                  refine ⟨_, rfl, a, _, _, _, rfl, rfl, hs, rfl, _, rfl, _, d2, n, rfl, h2, _, rfl, ?_⟩
                  cases b2 : isPl d2 n with
                  | false =>
                    rw [b2, Bool.and_false] at k
                    exact iteT k
                  | true =>
                    rw [b2, Bool.and_true] at k
                    refine iteF ?_
                    refine ⟨_, rfl, a, _, _, _, rfl, rfl, hs, rfl, _, _, _, _, kitS d1, rfl, .ty "str", tyX_dr h1, kit_str d1, _, rfl, ?_⟩
                    cases d1 with
                    | str z =>
                      obtain rfl := dr_str h1
                      have hz : z.length ≤ sizeLine := by
                        have : z.length + 1 ≤ 1000000 := w1
                        rw [sizeLine_eq]
                        omega
                      refine iteT ?_
                      refine ⟨_, rfl, a, _, _, _, rfl, rfl, hs, rfl, _, rfl, hz, rfl, _, rfl, ?_⟩
                      have k : Q (.bl (ltR z).isSome) H := k
                      by_cases l1 : z.length = 1
                      · rw [decide_eq_true (show V.int (z.length : Int) = V.int 1 by rw [l1] <;> rfl)]
                        refine iteT ?_
                        obtain ⟨c, rfl⟩ := str_one l1
                        rw [ltR_sg] at k
                        refine ⟨_, rfl, a, _, _, _, rfl, rfl, hs, rfl, _, _, rfl, rfl, _, rfl, ?_⟩
                        have e1 : (!decide ((sg c).cps.toList < ("a" : Str).cps.toList)) = decide (97 ≤ c) := lt_one
                        by_cases h1 : 97 ≤ c
                        · rw [e1, decide_eq_true h1]
                          refine iteT ?_
                          refine ⟨_, _, rfl, rfl, ?_⟩
                          have e2 : (!decide (("z" : Str).cps.toList < (sg c).cps.toList)) = decide (c ≤ 122) := lt_one
                          rw [e2]
                          rw [decide_eq_true h1] at k
                          exact k
                        · rw [e1, decide_eq_false h1]
                          refine iteF ?_
                          rw [decide_eq_false h1] at k
                          exact k
                      · rw [decide_eq_false (show ¬ V.int (z.length : Int) = V.int 1 from fun e => l1 (Int.ofNat.inj (V.int.inj e)))]
                        refine iteF ?_
                        rw [ltR_len l1] at k
                        exact k
                    | none => exact iteF k
                    | bool b => exact iteF k
                    | int i => exact iteF k
                    | list xs => exact iteF k
                    | tuple xs => exact iteF k
                    | dict kvs => exact iteF k
      · exact absurd l3 (by simp)
    | none => exact iteT k
    | bool b => exact iteT k
    | int i => exact iteT k
    | str z => exact iteT k
    | list xs => exact iteT k
    | dict kvs => exact iteT k
end
end Vk
set_option Elab.async false
set_option linter.all false
set_option maxRecDepth 100000
set_option maxHeartbeats 4000000
namespace Vk
open PySem PySem.Spec PyProof.Rows L2 Vt PySem.Vx Vs1 ClX
def eN (e : Int) (m : Mv) : Int := if e = 0 then (m.s : Int) else (m.t : Int)
def cl (e : Int) (a b : Mv) : Bool := decide (a.c = b.c) && decide (eN e a = eN e b)
def twF (e : Int) (ms : List (Addr × Mv)) (i : Nat) : Option (Addr × Mv) := match ms[i]? with
  | some p => if (ms.take i).any (fun r => cl e r.2 p.2) then some p else none
  | none => none
/-- the moves with the letter and the end of one before -/
def twG (e : Int) (ms : List (Addr × Mv)) : List (Addr × Mv) := (List.range ms.length).filterMap (twF e ms)
theorem eK_eq {e : Int} {a b : Mv} : eK e a = eK e b ↔ a.c = b.c ∧ (if e = 0 then (a.s : Int) else (a.t : Int)) = (if e = 0 then (b.s : Int) else (b.t : Int)) := by
  unfold eK
  constructor
  · intro h
    obtain ⟨h1, h2⟩ := List.cons.inj h
    obtain ⟨h3, _⟩ := List.cons.inj h2
    refine ⟨?_, Sum.inl.inj h3⟩
    have := Sum.inr.inj h1
    exact (List.cons.inj (congrArg (fun y : Str => y.cps.toList) this)).1
  · rintro ⟨h1, h2⟩
    rw [h1, h2]
theorem cl_iff {e : Int} {a b : Mv} : cl e a b = true ↔ eK e a = eK e b := by
  unfold cl
  rw [eK_eq, Bool.and_eq_true, decide_eq_true_eq, decide_eq_true_eq]
  rfl
section
variable {P : Program} {w : World} {K : PySem.W.Frag} {mg : Str → Option Value} {base : Heap}
def spLTwice (K : PySem.W.Frag) : Sp := fun vs H Q _ => ∃ (l : Addr) (ms : List (Addr × Mv)) (e : Int), vs = [.ref l, .int e] ∧ (e = 0 ∨ e = 2) ∧ MvsAt K H l ms ∧ ms.length ≤ 3999 ∧ ∀ p H', Same H H' → H p = none → H' p = some (.lst ((twG e ms).map fun r => .ref r.1)) → Q (.ref p) H'
theorem ok_ltwice {f : Addr} {fd : FuncData} (F : Fun K "_law_twice" "_law_twice" sLTwice f fd) (T : Txt8 K mg) (menum : mg "enumerate" = none) : FnOk P w K mg base CX0 1 f fd ["_law_ways", "_law_at"] (spLTwice K) := by
  refine F.ok scLT (fun vs H Q E h => ?_) (fun cdv A outer s H vs Q E hr h => ?_)
  · obtain ⟨l, ms, e, rfl, _⟩ := h
    rfl
  · obtain ⟨l, ms, e, rfl, he, hM, few, k⟩ := h
    refine ⟨_, (pss_one (ps_ret (pe_lc (own := [("_law_k", 2), ("_law_it", 3)]) (g := (gTup K 2 (gCons (gName 2) (gCons (gName 3) gNil)))) (by rfl) scLT.nd (pi_enumT (by rfl) menum (pa_cons (pv 0) pa_nil)) (blkOk_by (own := [("_law_k", 2), ("_law_it", 3)]) (N := ["_law_ways", "_law_at", "_law_k", "_law_it", "_law_far"]) (sc := defScope sLTwice) (by decide +kernel)) (fun _ _ _ _ _ => (pg_tup (by rfl) (pgs_cons (pg_name (i := 2) scLT.nd rfl (.inl rfl)) (pgs_cons (pg_name (i := 3) scLT.nd rfl (.inr rfl)) pgs_nil)))) (fun _ _ _ _ _ => (pts_one (pt_cmpR (r := rNeD K) (op_neD hr.units) (pe_lc (wi := iTup K (tSl (rSlT K) _ _ _)) (own := [("_law_far", 4)]) (g := (gName 4)) (by rfl) scLT.nd (pi_tup (pe_slice (r := rSlT K) sl_tup (pv 0) po_none (po_some (pv 2)))) (blkOk_by (own := [("_law_far", 4)]) (N := ["_law_ways", "_law_at", "_law_k", "_law_it", "_law_far"]) (sc := relS scTw (defScope sLTwice)) (by decide +kernel)) (fun _ _ _ _ _ => (pg_name (i := 4) scLT.nd rfl (.inl rfl))) (fun _ _ _ _ _ => (pts_one (PW.pt (pw_and (pt_cmpR op_eq (pe_ix (r := rIxT K) ix_tup (pv 4) pe_int (fun _ _ => rfl)) (pe_ix (r := rIxT K) ix_tup (pv 3) pe_int (fun _ _ => rfl)) (nomark _)) (pw_and1 (pt_cmpR op_eq (pe_ix (r := rIxT K) ix_tup (pv 4) (pv 1) (fun _ _ => rfl)) (pe_ix (r := rIxT K) ix_tup (pv 3) (pv 1) (fun _ _ => rfl)) (nomark _))))))) (fun _ _ _ _ _ => pe_int)) (pe_lst pa_nil) (nomark _)))) (fun _ _ _ _ _ => (pv 3))))), ?_⟩
    refine ⟨_, rfl, l, _, rfl, hM.tp, fun D nD => ?_⟩
    refine lc_enumT (K := K) (a := l) (xs := ms.map fun p => V.ref p.1) (fun i H' => Same H H' ∧ H' D = some (.lst (((List.range i).filterMap (twF e ms)).map fun r => .ref r.1))) ⟨same_up nD, upd_same⟩ (fun i H' _ ⟨S, _⟩ => same_seqT S hM.tp) ?_ ?_
    · rintro i y H' T hi nT ⟨S, hD⟩
      rw [List.getElem?_map] at hi
      obtain ⟨p, hp, rfl⟩ := Option.map_eq_some_iff.mp hi
      have pm := List.mem_of_getElem? hp
      have il : i < ms.length := (List.getElem?_eq_some_iff.mp hp).1
      have sT := same_up (o := .tup [.int (i : Nat), .ref p.1]) nT
      have nDT : D ≠ T := ne_of_none hD nT
      refine ⟨T, _, rfl, SqT.of upd_same, rfl, _, _, rfl, _, _, rfl, rfl, ⟨rfl, ?_⟩⟩
      have S1 := S.trans sT
      have hMl := same_seqT S1 hM.tp
      have cut : cutV (ms.map fun p => V.ref p.1) none (some ((i : Nat) : Int)) = (ms.take i).map fun p => V.ref p.1 := by rw [cut_to, List.map_take]
      refine ⟨_, rfl, _, rfl, i, rfl, l, _, rfl, hMl, ?_, fun u nu => ?_⟩
      · rw [HT.sIx_none, HT.sIx_nat, List.length_map]
        omega
      rw [cut]
      have sU := same_up (o := .tup ((ms.take i).map fun p => V.ref p.1)) nu
      refine ⟨u, rfl, ⟨_, SqT.of upd_same⟩, fun D2 nD2 => ?_⟩
      have S2 := S1.trans sU
      have hD2 := sU _ _ (sT _ _ hD)
      obtain ⟨HG, hHG⟩ : ∃ HG : List V → Hp, HG = fun xs => upd (upd (upd H' T (.tup [.int (i : Nat), .ref p.1])) u (.tup ((ms.take i).map fun p => V.ref p.1))) D2 (.lst xs) := ⟨_, rfl⟩
      refine lc_tup (K := K) (a := u) (xs := (ms.take i).map fun p => V.ref p.1) (fun i' H' => ∃ ones : List Int, (ones = [] ↔ ∀ r ∈ (ms.take i).take i', cl e r.2 p.2 = false) ∧ ones.length ≤ i' ∧ H' = upd (upd (upd _ T (.tup [.int (i : Nat), .ref p.1])) u (.tup ((ms.take i).map fun p => V.ref p.1))) D2 (.lst (ones.map V.int)))
        ⟨[], by simp, Nat.le_refl _, rfl⟩ (fun i' H' _ ⟨_, _, _, e⟩ => by rw [e]; exact SqT.of (same_up nD2 _ _ upd_same)) ?_ ?_
      · rintro i' y H2 hi' ⟨ones, on, ol, rfl⟩
        rw [List.getElem?_map] at hi'
        obtain ⟨r, hr', rfl⟩ := Option.map_eq_some_iff.mp hi'
        have rm : r ∈ ms := List.mem_of_mem_take (List.mem_of_getElem? hr')
        have il' : i' < (ms.take i).length := (List.getElem?_eq_some_iff.mp hr').1
        have ln : (ms.take i).length ≤ i := by rw [List.length_take]; exact Nat.min_le_left _ _
        have tk : (ms.take i).take (i' + 1) = (ms.take i).take i' ++ [r] := by rw [List.take_add_one, hr'] <;> rfl
        have sD := same_up (o := .lst (ones.map V.int)) nD2
        have S3 := S2.trans sD
        have h1 := same_seqT S3 (hM.it r rm)
        have h2 := same_seqT S3 (hM.it p pm)
        have hat : ∀ m : Mv, atI (mvV m) e = some (.int (eN e m)) := fun m => by
          rcases he with rfl | rfl <;> rfl
        refine ⟨rfl, ?_⟩
        have fin : ∀ bb : Bool, bb = cl e r.2 p.2 → (if bb = true then (∃ acc, HG (ones.map V.int) D2 = some (.lst acc) ∧ acc.length < sizeLine ∧ ∃ ones' : List Int, (ones' = [] ↔ ∀ r ∈ (ms.take i).take (i' + 1), cl e r.2 p.2 = false) ∧ ones'.length ≤ i' + 1 ∧ upd (HG (ones.map V.int)) D2 (.lst (acc ++ [.int 1])) = HG (ones'.map V.int))
            else ∃ ones' : List Int, (ones' = [] ↔ ∀ r ∈ (ms.take i).take (i' + 1), cl e r.2 p.2 = false) ∧ ones'.length ≤ i' + 1 ∧ HG (ones.map V.int) = HG (ones'.map V.int)) := by
          intro bb eb
          rw [hHG]
          cases hc : cl e r.2 p.2 with
          | true =>
            rw [eb, hc]
            refine iteT ⟨_, upd_same, by rw [List.length_map, sizeLine_eq]; omega, ones ++ [1], ⟨fun e => by simp at e, fun h => ?_⟩, by rw [List.length_append]; exact Nat.succ_le_succ ol, by rw [upd_upd, List.map_append] <;> rfl⟩
            have := h r (by rw [tk]; exact List.mem_append_right _ List.mem_cons_self)
            rw [hc] at this
            cases this
          | false =>
            rw [eb, hc]
            refine iteF ⟨ones, ?_, Nat.le_succ_of_le ol, rfl⟩
            rw [on, tk]
            refine ⟨fun h q hq => (List.mem_append.mp hq).elim (h q) fun y => by rw [List.mem_singleton.mp y]; exact hc, fun h q hq => h q (List.mem_append_left _ hq)⟩
        rw [hHG] at fin
        refine ⟨_, rfl, r.1, _, 1, .str (sg r.2.c), rfl, rfl, h1, rfl, _, rfl, p.1, _, 1, .str (sg p.2.c), rfl, rfl, h2, rfl, rfl, _, rfl, ?_⟩
        rw [sg_dec]
        by_cases e1 : r.2.c = p.2.c
        · rw [decide_eq_true e1]
          refine iteT ?_
          refine ⟨_, rfl, _, rfl, r.1, _, e, .int (eN e r.2), rfl, rfl, h1, hat r.2, _, rfl, _, rfl, p.1, _, e, .int (eN e p.2), rfl, rfl, h2, hat p.2, rfl, _, rfl, ?_⟩
          refine fin _ ?_
          unfold cl
          rw [decide_eq_true e1, Bool.true_and, Bool.eq_iff_iff, decide_eq_true_eq, decide_eq_true_eq]
          exact ⟨V.int.inj, congrArg V.int⟩
        · rw [decide_eq_false e1]
          refine iteF ?_
          refine fin false ?_
          unfold cl
          rw [decide_eq_false e1] <;> rfl
      · rintro H2 ⟨ones, on, ol, rfl⟩
        have ee : (ms.take i).take ((ms.take i).map fun p => V.ref p.1).length = ms.take i := by rw [List.length_map, List.take_length]
        rw [ee] at on
        have sD := same_up (o := .lst (ones.map V.int)) nD2
        refine ⟨Nat.zero_le _, fun p0 np0 => ?_⟩
        have S0 := same_up (o := .lst []) np0
        have hX := S0 _ _ (upd_same (a := D2) (o := .lst (ones.map V.int)))
        refine ⟨.list (ones.map PyData.int), .list [], .lst (SqL.of hX) (dp_ints ones), .lst (SqL.of upd_same) .nil, shaped_ints ones, by decide, _, rfl, ?_⟩
        rw [eqv_nil]
        have S4 := (S2.trans sD).trans S0
        have hD4 := S0 _ _ (sD _ _ hD2)
        have step : (List.range (i + 1)).filterMap (twF e ms) = (List.range i).filterMap (twF e ms) ++ (if (ms.take i).any (fun r => cl e r.2 p.2) then [p] else []) := by
          rw [List.range_succ, List.filterMap_append]
          congr 1
          show List.filterMap (twF e ms) [i] = _
          rw [List.filterMap_cons, List.filterMap_nil]
          unfold twF
          rw [hp]
          dsimp only
          split <;> split <;> simp_all
        have lenF : ((List.range i).filterMap (twF e ms)).length ≤ i := Nat.le_trans (List.length_filterMap_le _ _) (Nat.le_of_eq List.length_range)
        by_cases e0 : ones = []
        · rw [decide_eq_true e0]
          refine iteF ?_
          have na : (ms.take i).any (fun r => cl e r.2 p.2) = false := by
            rw [List.any_eq_false]
            exact fun r hr => by rw [on.mp e0 r hr]; exact Bool.false_ne_true
          rw [step, na, if_neg Bool.false_ne_true, List.append_nil]
          exact ⟨S4, hD4⟩
        · rw [decide_eq_false e0]
          refine iteT ?_
          have ya : (ms.take i).any (fun r => cl e r.2 p.2) = true := by
            cases h : (ms.take i).any (fun r => cl e r.2 p.2) with
            | true => rfl
            | false =>
              rw [List.any_eq_false] at h
              exact absurd (on.mpr fun r hr => by simpa using h r hr) e0
          rw [step, ya, if_pos rfl]
          refine ⟨_, rfl, _, hD4, by rw [List.length_map, sizeLine_eq]; omega, fun b o z => ?_, ?_⟩
          · rw [upd_ne (ne_of_none z nD)]
            exact S4 _ _ z
          · rw [upd_same, List.map_append] <;> rfl
    · rintro H' ⟨S, hD⟩
      rw [List.length_map] at hD
      exact k D H' S nD hD
end
end Vk
set_option Elab.async false
set_option linter.all false
set_option maxRecDepth 100000
set_option maxHeartbeats 4000000
namespace Vk
open PySem PySem.Spec PyProof.Rows L2 Vt PySem.Vx Vs1 ClX
/-! ## a list against an empty one -/
def rNeE (K : PySem.W.Frag) : R2 := fun x y H Q => ∃ a b xs, x = .ref a ∧ y = .ref b ∧ SqL K H a xs ∧ SqL K H b [] ∧ Q (.bl (!xs.isEmpty)) H
theorem op_neE {X : Cx} (hu : X.A.units + 64 < cLine) : OpR X (compareOp .NotEq) (rNeE X.K) := by
  intro pins s σ H x y v u Q I rx ry h
  obtain ⟨a, b, xs, rfl, rfl, ha, hb, q⟩ := h
  cases rx
  cases ry
  obtain ⟨its, r, p, _⟩ := I.list ha
  obtain ⟨its2, r2, p2, _⟩ := I.list hb
  have l2 : its2 = [] := by
    have := r2.length
    exact List.length_eq_zero_iff.mp this.symm
  subst l2
  have l1 := r.length
  cases xs with
  | nil =>
    have l3 : its = [] := List.length_eq_zero_iff.mp l1.symm
    subst l3
    have R : SeqAt.RcNeAt X.A s (.ref a) (.ref b) (!(List.range ((#[] : Array Value)).size).all fun _ => true) := SeqAt.RcNeAt.lists (items := #[]) (items2 := #[]) (e := fun _ => true) p.isList p2.isList rfl (by omega) (fun j h1 _ => absurd h1 (Nat.not_lt_zero _))
    exact R _ _ _ _ ⟨.bl false, H, I, rfl, q⟩
  | cons x xs =>
    have R : SeqAt.RcNeAt X.A s (.ref a) (.ref b) true := SeqAt.RcNeAt.lists_lengths p.isList p2.isList (by
      cases its with
      | nil => cases l1
      | cons i its => rfl) (by omega)
    exact R _ _ _ _ ⟨.bl true, H, I, rfl, q⟩
/-! ## a slice of a list: not the place of sys.modules -/
def rSlN (K : PySem.W.Frag) : V → Option Int → Option Int → Hp → VK → Prop := fun x lo hi H Q => ∃ a xs, x = .ref a ∧ SqL K H a xs ∧ ∀ p, H p = none → p ≠ sysModules → Q (.ref p) (upd H p (.lst (cutV xs lo hi)))
theorem sl_listN {X : Cx} : SlR X (rSlN X.K) := by
  intro pins s σ H x v vl vu lo hi sl Q I rx hs pl pu h
  obtain ⟨a, xs, rfl, hx, q⟩ := h
  cases rx
  obtain ⟨its, r, ht, hz⟩ := I.list hx
  have hlen := r.length
  refine ⟨"list", _, slot_list_getitem.lookup, ht.isList.typeIs, ?_⟩
  refine wpAny_getItem_list_slice ht.isList hs pl pu .none (by simp) ?_ (by rw [List.size_toArray] <;> omega)
  rw [slicePick_cut, ← hlen]
  refine ⟨.ref s.heap.objs.size, _, I.laid (t' := s.toks) (o := .lst (cutV xs lo hi)) (fun b ob q => Heap.get?_push_of_some _ q) (Nat.le_refl _) ?_, rfl, q _ (I.hok.fresh (Nat.le_refl _)) (Nat.ne_of_gt I.big)⟩
  exact ⟨Nat.le_trans (cutV_length xs lo hi) hz, _, 0, (r.drop (HT.sIx xs.length 0 lo)).take (HT.sIx xs.length xs.length hi - HT.sIx xs.length 0 lo), Heap.get?_push_size _ rfl⟩
/-! ## on paper -/
def topN : PyData → Nat
  | .tuple xs => xs.length
  | _ => 0
theorem filter_first {n : Int} : ∀ {ds : List PyData} {j : Nat} {x : PyData}, ds[j]? = some x → isMv x n = false → (∀ i y, i < j → ds[i]? = some y → isMv y n = true) → (ds.filter fun d => !isMv d n).take 1 = [x]
  | d :: ds, 0, x, h, b, _ => by
    cases h
    rw [List.filter_cons, b] <;> rfl
  | d :: ds, j + 1, x, h, b, pre => by
    rw [List.filter_cons, pre 0 d (Nat.succ_pos _) rfl]
    exact filter_first (j := j) h b fun i y hi hy => pre (i + 1) y (Nat.succ_lt_succ hi) hy
theorem filter_none {n : Nat} {ms : List Mv} (h : ∀ m ∈ ms, OkMv n m) : ((ms.map mvD).filter fun d => !isMv d (n : Int)) = [] := by
  rw [List.filter_eq_nil_iff]
  intro d hd
  obtain ⟨m, hm, rfl⟩ := List.mem_map.mp hd
  rw [isMv_mv (h m hm)]
  exact Bool.false_ne_true
theorem nodup_lt {α : Type} {l : List α} {i : Nat} {x : α} (nd : l.Nodup) (h : l[i]? = some x) : x ∉ l.take i := nin_take nd h
theorem twF_none {e : Int} {ms : List (Addr × Mv)} {j : Nat} (nd : ((ms.take j).map fun r => eK e r.2).Nodup) : ∀ i, i < j → twF e ms i = none := by
  intro i hi
  unfold twF
  cases hp : ms[i]? with
  | none => rfl
  | some p =>
    dsimp only
    rw [if_neg]
    intro h
    obtain ⟨r, hr, hc⟩ := List.any_eq_true.mp h
    have g : ((ms.take j).map fun r => eK e r.2)[i]? = some (eK e p.2) := by
      rw [List.getElem?_map, List.getElem?_take_of_lt hi, hp] <;> rfl
    have := nin_take nd g
    rw [← List.map_take, List.take_take, Nat.min_eq_left (Nat.le_of_lt hi)] at this
    exact this (List.mem_map.mpr ⟨r, hr, cl_iff.mp hc⟩)
theorem twG_nil {e : Int} {ms : List (Addr × Mv)} (nd : (ms.map fun r => eK e r.2).Nodup) : twG e ms = [] := by
  unfold twG
  rw [List.filterMap_eq_nil_iff]
  intro i hi
  exact twF_none (j := ms.length) (by rw [List.take_length]; exact nd) i (List.mem_range.mp hi)
theorem twG_first {e : Int} {ms : List (Addr × Mv)} {m : Mv} (c : ClashG e (ms.map (·.2)) m) : ∃ p rest, twG e ms = p :: rest ∧ p.2 = m ∧ p ∈ ms := by
  obtain ⟨j, p, hj, ep, nd, inn⟩ := clash_at c
  have jl : j < ms.length := (List.getElem?_eq_some_iff.mp hj).1
  have h1 : twF e ms j = some p := by
    unfold twF
    rw [hj]
    dsimp only
    rw [if_pos]
    obtain ⟨r, hr, he⟩ := List.mem_map.mp inn
    exact List.any_eq_true.mpr ⟨r, hr, cl_iff.mpr he⟩
  obtain ⟨k, hk⟩ : ∃ k, ms.length = (j + 1) + k := ⟨ms.length - (j + 1), by omega⟩
  refine ⟨p, ((List.range k).map (j + 1 + ·)).filterMap (twF e ms), ?_, ep, List.mem_of_getElem? hj⟩
  unfold twG
  rw [hk, List.range_add, List.filterMap_append, List.range_succ, List.filterMap_append]
  have h0 : (List.range j).filterMap (twF e ms) = [] := by
    rw [List.filterMap_eq_nil_iff]
    exact fun i hi => twF_none nd i (List.mem_range.mp hi)
  rw [h0, List.nil_append, List.filterMap_cons, h1, List.filterMap_nil] <;> rfl
theorem led_to {E : List (Nat × Nat)} {b : Nat} {l : List Nat} (L : Led E b l) (x : Nat) : x ∈ l ↔ ToIt b E x := ⟨fun h S hb hc => L.mn S hb hc x h, fun h => h l L.st L.cl⟩
theorem not_to {E : List (Nat × Nat)} {b : Nat} {l : List Nat} (L : Led E b l) {x : Nat} (h : NotIt b E x) : x ∉ l := fun z => by
  obtain ⟨S, h1, h2, h3⟩ := h
  exact h3 (L.mn S h1 h2 x z)
theorem off_first {A B : List Nat} : ∀ {n x : Nat}, x < n → (∀ y, y < x → y ∈ A ∧ y ∈ B) → (x ∉ A ∨ x ∉ B) → ((List.range n).filter fun k => !decide (k ∈ A) || !decide (k ∈ B)).take 1 = [x] := by
  intro n x hx pre off
  obtain ⟨k, rfl⟩ : ∃ k, n = (x + 1) + k := ⟨n - (x + 1), by omega⟩
  rw [List.range_add, List.filter_append, List.range_succ, List.filter_append]
  have h0 : ((List.range x).filter fun k => !decide (k ∈ A) || !decide (k ∈ B)) = [] := by
    rw [List.filter_eq_nil_iff]
    intro y hy
    obtain ⟨a, b⟩ := pre y (List.mem_range.mp hy)
    rw [decide_eq_true a, decide_eq_true b]
    exact Bool.false_ne_true
  have h1 : (!decide (x ∈ A) || !decide (x ∈ B)) = true := by
    rcases off with h | h
    · rw [decide_eq_false h] <;> rfl
    · rw [decide_eq_false h, Bool.or_comm] <;> rfl
  rw [h0, List.nil_append, List.filter_cons, h1] <;> rfl
theorem off_none {A B : List Nat} {n : Nat} (h : ∀ y, y < n → y ∈ A ∧ y ∈ B) : ((List.range n).filter fun k => !decide (k ∈ A) || !decide (k ∈ B)) = [] := by
  rw [List.filter_eq_nil_iff]
  intro y hy
  obtain ⟨a, b⟩ := h y (List.mem_range.mp hy)
  rw [decide_eq_true a, decide_eq_true b]
  exact Bool.false_ne_true
end Vk
set_option Elab.async false
set_option linter.all false
set_option maxRecDepth 100000
set_option maxHeartbeats 4000000
namespace Vk
open PySem PySem.Spec PyProof.Rows L2 Vt PySem.Vx Vs1 ClX
abbrev sLWrong : Stmt := top8 71
def WrongR (d0 d1 d2 d3 : PyData) : Option PyData → Prop
  | some p => WrongP d0 d1 d2 d3 p
  | none => RightP d0 d1 d2 d3
section
variable {P : Program} {w : World} {K : PySem.W.Frag} {mg : Str → Option Value} {base : Heap}
def spWrong (K : PySem.W.Frag) : Sp := fun vs H Q _ => ∃ (q : Addr) (v0 v1 v2 v3 : V) (d0 d1 d2 d3 : PyData) (r : Option PyData), vs = [.ref q] ∧ SqT K H q [v0, v1, v2, v3] ∧ Dr K H v0 d0 ∧ Dr K H v1 d1 ∧ Dr K H v2 d2 ∧ Dr K H v3 d3 ∧ wt d3 ≤ 4000 ∧ topN d3 ≤ 60 ∧ WrongR d0 d1 d2 d3 r ∧
  ∀ p H', Same H H' → H p = none → Dr K H' (.ref p) (.list r.toList) → Q (.ref p) H'
theorem scLW : FnScope ["_law_plan", "_law_wide", "_law_begin", "_law_goal", "_law_ways", "_law_it", "_law_bad", "_law_at", "_law_s", "_law_x", "_law_t", "_law_ahead", "_law_homes", "_law_k"] ["_law_plan"] (defScope sLWrong) := ⟨rfl, rfl, rfl, by decide +kernel, rfl, by decide +kernel, by decide +kernel⟩
instance : DecidableRel mvLt := fun a b => by
  unfold mvLt
  infer_instance
theorem mvK_inj {a b : Mv} (h : mvK a = mvK b) : a = b := by
  unfold mvK at h
  rw [mv_eq]
  obtain ⟨h1, h2⟩ := List.cons.inj h
  obtain ⟨h3, h4⟩ := List.cons.inj h2
  obtain ⟨h5, _⟩ := List.cons.inj h4
  have e1 := Sum.inl.inj h1
  have e3 := Sum.inl.inj h5
  have e2 := (List.cons.inj (congrArg (fun y : Str => y.cps.toList) (Sum.inr.inj h3))).1
  exact ⟨by omega, e2, by omega⟩
theorem dr_one {H : Hp} {p : Addr} {z : Str} (np : H p = none) (nm : p ≠ sysModules) : Dr K (upd H p (.lst [.str z])) (.ref p) (.list [.str z]) := .lst nm (SqL.of upd_same) (.cons (.str _) .nil)
theorem ok_wrong {f fN fP fM fT fL : Addr} {fd fdN fdP fdM fdT fdL : FuncData} (F : Fun K "_law_wrong" "_law_wrong" sLWrong f fd) (T : Txt8 K mg)
    (GN : FnOk P w K mg base CX0 1 fN fdN ["_law_it"] (spNumD K)) (gN : mg "_law_is_number" = some (.ref fN)) (kN : PySem.W.keepIn K (.ref fN) = true) (bN : Binds K fdN ["_law_it"] [])
    (GP : FnOk P w K mg base CX0 2 fP fdP ["_law_it", "_law_wide"] (spStateD K)) (gP : mg "_law_is_place" = some (.ref fP)) (kP : PySem.W.keepIn K (.ref fP) = true) (bP : Binds K fdP ["_law_it", "_law_wide"] [])
    (GM : FnOk P w K mg base CX0 3 fM fdM ["_law_it", "_law_wide"] (spMoveD K)) (gM : mg "_law_is_move" = some (.ref fM)) (kM : PySem.W.keepIn K (.ref fM) = true) (bM : Binds K fdM ["_law_it", "_law_wide"] [])
    (GT : FnOk P w K mg base CX0 1 fT fdT ["_law_ways", "_law_at"] (spLTwice K)) (gT : mg "_law_twice" = some (.ref fT)) (kT : PySem.W.keepIn K (.ref fT) = true) (bT : Binds K fdT ["_law_ways", "_law_at"] [])
    (GL : FnOk P w K mg base CX0 1 fL fdL ["_law_begin", "_law_pairs"] (spLed K)) (gL : mg "_law_led" = some (.ref fL)) (kL : PySem.W.keepIn K (.ref fL) = true) (bL : Binds K fdL ["_law_begin", "_law_pairs"] []) :
    FnOk P w K mg base CX0 4 f fd ["_law_plan"] (spWrong K) := by
  refine F.ok scLW (fun vs H Q E h => ?_) (fun cdv A outer s H vs Q E hr h => ?_)
  · obtain ⟨q, v0, v1, v2, v3, d0, d1, d2, d3, r, rfl, _⟩ := h
    rfl
  · obtain ⟨q, v0, v1, v2, v3, d0, d1, d2, d3, r, rfl, hq, h0, h1, h2, h3, hw, ht, res, k⟩ := h
    have hr1 : Room 1 _ := hr.mono (by decide)
    have hr2 : Room 2 _ := hr.mono (by decide)
    refine ⟨_, (pss_cons (ps_asg (pv 0) (pg_tup rfl (pgs_cons (pg_name (i := 1) scLW.nd rfl (.inr rfl)) (pgs_cons (pg_name (i := 2) scLW.nd rfl (.inl rfl)) (pgs_cons (pg_name (i := 3) scLW.nd rfl (.inl rfl)) (pgs_cons (pg_name (i := 4) scLW.nd rfl (.inl rfl)) pgs_nil))))))
        (pss_cons (ps_if (PW.pt (pw_or (pt_not (pt_val (pe_call GN hr1 rfl gN kN bN .nil pass0 (pa_cons (pv 1) pa_nil)))) (pw_or1 (pt_not (pt_chain op_lt op_lt pe_int (pv 1) pe_int))))) (pss_one (ps_ret (pe_lstN (pa_cons pe_str pa_nil)))) pss_nil)
        (pss_cons (ps_if (PW.pt (pw_or (pt_not (pt_val (pe_call GP hr2 rfl gP kP bP .nil pass0 (pa_cons (pv 2) (pa_cons (pv 1) pa_nil))))) (pw_or1 (pt_not (pt_val (pe_call GP hr2 rfl gP kP bP .nil pass0 (pa_cons (pv 3) (pa_cons (pv 1) pa_nil)))))))) (pss_one (ps_ret (pe_ifExp (pt_not (pt_val (pe_call GP hr2 rfl gP kP bP .nil pass0 (pa_cons (pv 2) (pa_cons (pv 1) pa_nil))))) (pe_lstN (pa_cons pe_str pa_nil)) (pe_lstN (pa_cons pe_str pa_nil))))) pss_nil)
        (pss_cons (ps_if (pt_not (pt_val (pe_callB call_isi (by rfl) T.isi (by decide +kernel) (pa_cons (pv 4) (pa_cons (pe_bltn (v := .ty "tuple") (by rfl) T.tup (by decide +kernel) rfl) pa_nil))))) (pss_one (ps_ret (pe_lstN (pa_cons pe_str pa_nil)))) pss_nil)
        (pss_cons (ps_setLc (i := 6) (own := [("_law_it", 5)]) (g := (gName 5)) (by rfl) scLW.nd rfl rfl (sw_true rfl rfl rfl (by decide +kernel)) (pi_tup (pv 4)) (blkOk_by (own := [("_law_it", 5)]) (N := ["_law_plan", "_law_wide", "_law_begin", "_law_goal", "_law_ways", "_law_it", "_law_bad", "_law_at", "_law_s", "_law_x", "_law_t", "_law_ahead", "_law_homes", "_law_k"]) (sc := defScope sLWrong) (by decide +kernel)) (fun _ _ _ _ _ => (pg_name (i := 5) scLW.nd rfl (.inl rfl))) (fun _ _ _ _ _ => (pts_one (pt_not (pt_val (pe_call GM hr rfl gM kM bM .nil pass0 (pa_cons (pv 5) (pa_cons (pv 1) pa_nil))))))) (fun _ _ _ _ _ => (pv 5)))
        (pss_cons (ps_if (pt_cmpR (op_neE hr.units) (pv 6) (pe_lstN pa_nil) (nomark _)) (pss_one (ps_ret (pe_slice sl_listN (pv 6) po_none (po_some pe_int)))) pss_nil)
        (pss_cons (ps_if (pt_cmpR (op_neD hr.units) (pe_callTy call_list_of (by rfl) T.lst (by decide +kernel) (pa_cons (pv 4) pa_nil)) (pe_callB (cr_sortedM (by rfl) hr.units) (by rfl) T.srt (by decide +kernel) (pa_cons (pe_callTy (cr_setM (by rfl) hr.units) (by rfl) T.set (by decide +kernel) (pa_cons (pv 4) pa_nil)) pa_nil)) (nomark _)) (pss_one (ps_ret (pe_lstN (pa_cons pe_str pa_nil)))) pss_nil)
        (pss_cons (ps_for PassesOwn.never rfl (pi_tup (pe_tup (pa_cons pe_int (pa_cons pe_int pa_nil)))) (pg_name (i := 7) scLW.nd rfl (.inl rfl)) (pss_one (ps_if (pt_cmpR (op_neE hr.units) (pe_call GT hr1 rfl gT kT bT .nil pass0 (pa_cons (pv 4) (pa_cons (pv 7) pa_nil))) (pe_lstN pa_nil) (nomark _)) (pss_one (ps_ret (pe_slice sl_listN (pe_call GT hr1 rfl gT kT bT .nil pass0 (pa_cons (pv 4) (pa_cons (pv 7) pa_nil))) po_none (po_some pe_int)))) pss_nil)))
        (pss_cons (ps_asg (pe_tup (pa_cons (pe_call GL hr1 rfl gL kL bL .nil pass0 (pa_cons (pv 2) (pa_cons (pe_lc (own := [("_law_s", 8), ("_law_x", 9), ("_law_t", 10)]) (g := (gTup K 3 (gCons (gName 8) (gCons (gName 9) (gCons (gName 10) gNil))))) (by rfl) scLW.nd (pi_tup (pv 4)) (blkOk_by (own := [("_law_s", 8), ("_law_x", 9), ("_law_t", 10)]) (N := ["_law_plan", "_law_wide", "_law_begin", "_law_goal", "_law_ways", "_law_it", "_law_bad", "_law_at", "_law_s", "_law_x", "_law_t", "_law_ahead", "_law_homes", "_law_k"]) (sc := defScope sLWrong) (by decide +kernel)) (fun _ _ _ _ _ => (pg_tup (by rfl) (pgs_cons (pg_name (i := 8) scLW.nd rfl (.inl rfl)) (pgs_cons (pg_name (i := 9) scLW.nd rfl (.inl rfl)) (pgs_cons (pg_name (i := 10) scLW.nd rfl (.inl rfl)) pgs_nil))))) (fun _ _ _ _ _ => pts_nil) (fun _ _ _ _ _ => (pe_tup (pa_cons (pv 8) (pa_cons (pv 10) pa_nil))))) pa_nil))) (pa_cons (pe_call GL hr1 rfl gL kL bL .nil pass0 (pa_cons (pv 3) (pa_cons (pe_lc (own := [("_law_s", 8), ("_law_x", 9), ("_law_t", 10)]) (g := (gTup K 3 (gCons (gName 8) (gCons (gName 9) (gCons (gName 10) gNil))))) (by rfl) scLW.nd (pi_tup (pv 4)) (blkOk_by (own := [("_law_s", 8), ("_law_x", 9), ("_law_t", 10)]) (N := ["_law_plan", "_law_wide", "_law_begin", "_law_goal", "_law_ways", "_law_it", "_law_bad", "_law_at", "_law_s", "_law_x", "_law_t", "_law_ahead", "_law_homes", "_law_k"]) (sc := defScope sLWrong) (by decide +kernel)) (fun _ _ _ _ _ => (pg_tup (by rfl) (pgs_cons (pg_name (i := 8) scLW.nd rfl (.inl rfl)) (pgs_cons (pg_name (i := 9) scLW.nd rfl (.inl rfl)) (pgs_cons (pg_name (i := 10) scLW.nd rfl (.inl rfl)) pgs_nil))))) (fun _ _ _ _ _ => pts_nil) (fun _ _ _ _ _ => (pe_tup (pa_cons (pv 10) (pa_cons (pv 8) pa_nil))))) pa_nil))) pa_nil))) (pg_tup rfl (pgs_cons (pg_name (i := 11) scLW.nd rfl (.inr rfl)) (pgs_cons (pg_name (i := 12) scLW.nd rfl (.inr rfl)) pgs_nil))))
        (pss_one (ps_ret (pe_slice sl_listN (pe_lc (own := [("_law_k", 13)]) (g := (gName 13)) (by rfl) scLW.nd (pi_range1 (by rfl) T.rng (pa_cons (pv 1) pa_nil)) (blkOk_by (own := [("_law_k", 13)]) (N := ["_law_plan", "_law_wide", "_law_begin", "_law_goal", "_law_ways", "_law_it", "_law_bad", "_law_at", "_law_s", "_law_x", "_law_t", "_law_ahead", "_law_homes", "_law_k"]) (sc := defScope sLWrong) (by decide +kernel)) (fun _ _ _ _ _ => (pg_name (i := 13) scLW.nd rfl (.inl rfl))) (fun _ _ _ _ _ => (pts_one (PW.pt (pw_or (pt_cmpR (r := rIn K true) op_notIn_seq (pv 13) (pv 11) (by rfl)) (pw_or1 (pt_cmpR (r := rIn K true) op_notIn_seq (pv 13) (pv 12) (by rfl))))))) (fun _ _ _ _ _ => (pv 13))) po_none (po_some pe_int))))))))))))), ?_⟩
    have out : ∀ z : Str, r = some (.str z) → ∀ {H' : Hp}, Same H H' → (1 ≤ sizeLine ∧ ∀ p, H' p = none → p ≠ sysModules → Q (.ref p) (upd H' p (.lst [.str z]))) := fun z hz H' S => ⟨by decide, fun p np nm => k p _ (S.trans (same_up np)) (none_back S np) (by rw [hz]; exact dr_one np nm)⟩
    refine ⟨_, rfl, q, _, rfl, hq, rfl, _, _, rfl, _, _, rfl, _, _, rfl, _, _, rfl, rfl, ?_⟩
    dsimp only
    refine go_seq ?_
    refine ⟨_, rfl, v0, d0, rfl, h0, _, rfl, ?_⟩
    by_cases sz : ∀ i, d0 = .int i → ¬ (1 ≤ i ∧ i ≤ 999)
    · have er : r = some (.str "size") := by
        cases r with
        | none =>
          cases res with
          | mk n st la ms pre g => exact absurd ⟨by have := pre.n1; omega, by have := pre.n2; omega⟩ (sz _ rfl)
        | some p =>
          cases res with
          | size => rfl
          | first n _ _ _ a b c => exact absurd ⟨by omega, by omega⟩ (sz _ rfl)
          | last n _ _ _ a b c => exact absurd ⟨by omega, by omega⟩ (sz _ rfl)
          | moves n _ _ _ _ a b => exact absurd ⟨by omega, by omega⟩ (sz _ rfl)
          | bad n st la ms b pre bd => exact absurd ⟨by have := pre.n1; omega, by have := pre.n2; omega⟩ (sz _ rfl)
      cases hn : isNum d0 with
      | false =>
        refine iteT ?_
        exact out _ er (Same.refl _)
      | true =>
        obtain ⟨i, rfl⟩ := isNum_int hn
        obtain rfl := dr_int h0
        refine iteF ?_
        refine ⟨_, rfl, _, _, rfl, rfl, _, rfl, ?_⟩
        by_cases i1 : (0 : Int) < i
        · rw [decide_eq_true i1]
          refine iteT ?_
          refine ⟨_, _, rfl, rfl, _, rfl, ?_⟩
          rw [decide_eq_false (show ¬ i < 1000 from fun z => sz i rfl ⟨i1, by omega⟩)]
          refine iteT ?_
          exact out _ er (Same.refl _)
        · rw [decide_eq_false i1]
          refine iteF ?_
          refine ⟨false, rfl, ?_⟩
          refine iteT ?_
          exact out _ er (Same.refl _)
    obtain ⟨n, rfl, n1, n2⟩ : ∃ n : Nat, d0 = .int (n : Int) ∧ 1 ≤ n ∧ n ≤ 999 := by
      have := Classical.not_forall.mp sz
      obtain ⟨i, hi⟩ := this
      have ⟨e, c⟩ := Classical.not_imp.mp hi
      have c := Classical.not_not.mp c
      exact ⟨i.toNat, by rw [e, Int.toNat_of_nonneg (by omega)], by omega, by omega⟩
    obtain rfl := dr_int h0
    refine iteF ?_
    refine ⟨_, rfl, _, _, rfl, rfl, _, rfl, ?_⟩
    rw [decide_eq_true (show (0 : Int) < (n : Int) by omega)]
    refine iteT ?_
    refine ⟨_, _, rfl, rfl, _, rfl, ?_⟩
    rw [decide_eq_true (show (n : Int) < 1000 by omega)]
    refine iteF ?_
    refine ⟨_, rfl, _, rfl, _, d1, _, rfl, h1, _, rfl, ?_⟩
    cases i1 : isPl d1 (n : Int) with
    | false =>
      have er : r = some (.str "first") := by
        cases r with
        | none =>
          cases res with
          | mk n st la ms pre g => rw [pl_at pre.hst] at i1; cases i1
        | some p =>
          cases res with
          | size _ _ _ _ c => exact absurd ⟨by omega, by omega⟩ (c _ rfl)
          | first n _ _ _ a b c => rfl
          | last n _ _ _ a b c => rw [i1] at c; cases c
          | moves n st la _ _ a b c => rw [pl_at c] at i1; cases i1
          | bad n st la ms b pre bd => rw [pl_at pre.hst] at i1; cases i1
      refine iteT ?_
      refine ⟨_, rfl, _, rfl, _, d1, _, rfl, h1, _, rfl, ?_⟩
      rw [i1]
      refine iteT ?_
      exact out _ er (Same.refl _)
    | true =>
      refine iteF ?_
      refine ⟨_, rfl, _, rfl, _, d2, _, rfl, h2, _, rfl, ?_⟩
      cases i2 : isPl d2 (n : Int) with
      | false =>
        have er : r = some (.str "last") := by
          cases r with
          | none =>
            cases res with
            | mk n st la ms pre g => rw [pl_at pre.hla] at i2; cases i2
          | some p =>
            cases res with
            | size _ _ _ _ c => exact absurd ⟨by omega, by omega⟩ (c _ rfl)
            | first n _ _ _ a b c => rw [i1] at c; cases c
            | last n _ _ _ a b c => rfl
            | moves n st la _ _ a b c d => rw [pl_at d] at i2; cases i2
            | bad n st la ms b pre bd => rw [pl_at pre.hla] at i2; cases i2
        refine iteT ?_
        refine ⟨_, rfl, _, rfl, _, d1, _, rfl, h1, _, rfl, ?_⟩
        rw [i1]
        refine iteF ?_
        exact out _ er (Same.refl _)
      | true =>
        refine iteF ?_
        obtain ⟨st, rfl, hst⟩ := pl_of i1
        obtain ⟨la, rfl, hla⟩ := pl_of i2
        obtain rfl := dr_int h1
        obtain rfl := dr_int h2
        refine ⟨_, rfl, _, _, _, _, kitT d3, rfl, .ty "tuple", tyX_dr h3, kit_tup d3, _, rfl, ?_⟩
        have res2 : (∃ p, r = some p ∧ WrongM n d3 p) ∨ (∃ (ms : List Mv) (b : Nat ⊕ Mv), r = some (payD b) ∧ d3 = .tuple (ms.map mvD) ∧ PreM n st la ms ∧ BadG n st la ms b) ∨ (∃ ms : List Mv, r = none ∧ d3 = .tuple (ms.map mvD) ∧ PreM n st la ms ∧ GoodG n st la ms) := by
          cases r with
          | none =>
            cases res with
            | mk _ _ _ ms pre g => exact .inr (.inr ⟨ms, rfl, rfl, pre, g⟩)
          | some p =>
            cases res with
            | size _ _ _ _ c => exact absurd ⟨by omega, by omega⟩ (c _ rfl)
            | first _ _ _ _ a b c => rw [i1] at c; cases c
            | last _ _ _ _ a b c d => rw [i2] at d; cases d
            | moves _ _ _ _ _ a b c d e => exact .inl ⟨p, rfl, e⟩
            | bad _ _ _ ms b pre bd => exact .inr (.inl ⟨ms, b, rfl, rfl, pre, bd⟩)
        clear res
        cases hk : kitT d3 with
        | false =>
          refine iteT ?_
          have er : r = some (.str "moves") := by
            rcases res2 with ⟨p, e, m⟩ | ⟨ms, b, _, rfl, _⟩ | ⟨ms, _, rfl, _⟩
            · cases m with
              | moves => exact e
              | move => cases hk
              | order => cases hk
            · cases hk
            · cases hk
          exact out _ er (Same.refl _)
        | true =>
        refine iteF ?_
        obtain ⟨ds, rfl⟩ : ∃ ds, d3 = .tuple ds := by
          cases d3 with
          | tuple ds => exact ⟨ds, rfl⟩
          | _ => cases hk
        obtain ⟨l, xs, rfl, hs, ha⟩ := dr_tup h3
        have lx := ha.length
        refine ⟨_, rfl, l, rfl, ⟨_, hs⟩, fun D nD => ?_⟩
        refine lc_tup (K := K) (a := l) (xs := xs) (fun i H' => ∃ ys : List V, H' = upd H D (.lst ys) ∧ ys.length ≤ i ∧ DrAll K H ys ((ds.take i).filter fun d => !isMv d (n : Int))) ⟨[], rfl, Nat.le_refl _, by rw [List.take_zero]; exact .nil⟩ (fun i H' _ ⟨ys, e, _⟩ => by rw [e]; exact same_seqT (same_up nD) hs) ?_ ?_
        · rintro i y H' hi ⟨ys, rfl, yl, hys⟩
          obtain ⟨dy, hdy, ry⟩ := ha.get hi
          have il : i < xs.length := (List.getElem?_eq_some_iff.mp hi).1
          have sD := same_up (o := .lst ys) nD
          have wy : wt dy ≤ 1000000 := by
            have := wt_mem (List.mem_of_getElem? hdy)
            have e : wt (.tuple ds) = wtAll ds + 1 := rfl
            omega
          have xlen : xs.length ≤ 4000 := by
            have := wtAll_len ds
            have e : wt (.tuple ds) = wtAll ds + 1 := rfl
            omega
          have tk : ds.take (i + 1) = ds.take i ++ [dy] := by rw [List.take_add_one, hdy] <;> rfl
          refine ⟨rfl, ?_⟩
          refine ⟨_, rfl, _, rfl, y, dy, (n : Int), rfl, ry.keep sD, wy, _, rfl, ?_⟩
          cases hb : isMv dy (n : Int) with
          | true =>
            refine iteF ?_
            refine ⟨ys, rfl, Nat.le_succ_of_le yl, ?_⟩
            rw [tk, List.filter_append, List.filter_cons, hb]
            simpa using hys
          | false =>
            refine iteT ?_
            refine ⟨_, rfl, _, upd_same, by rw [sizeLine_eq]; omega, ys ++ [y], by rw [upd_upd], by rw [List.length_append]; exact Nat.succ_le_succ yl, ?_⟩
            rw [tk, List.filter_append, List.filter_cons, hb]
            exact hys.app (.cons ry .nil)
        rintro H1 ⟨ys, rfl, yl, hys⟩
        rw [lx, List.take_length] at hys
        have sD := same_up (o := .lst ys) nD
        have main : (∃ (j : Nat) (x : PyData), r = some x ∧ ds[j]? = some x ∧ isMv x (n : Int) = false ∧ ∀ i y, i < j → ds[i]? = some y → isMv y (n : Int) = true) ∨
            ∃ ms : List Mv, ds = ms.map mvD ∧ (∀ m ∈ ms, OkMv n m) ∧ ((r = some (.str "order") ∧ ¬ ms.Pairwise mvLt) ∨ (∃ b, r = some (payD b) ∧ PreM n st la ms ∧ BadG n st la ms b) ∨ (r = none ∧ PreM n st la ms ∧ GoodG n st la ms)) := by
          rcases res2 with ⟨p, er, m⟩ | ⟨ms, b, er, e, pre, bd⟩ | ⟨ms, er, e, pre, g⟩
          · cases m with
            | moves _ c => cases c
            | move _ j _ hx bx pr => exact .inl ⟨j, p, er, hx, bx, pr⟩
            | order ms ok na => exact .inr ⟨ms, rfl, ok, .inl ⟨er, na⟩⟩
          · exact .inr ⟨ms, PyData.tuple.inj e, pre.ok, .inr (.inl ⟨b, er, pre, bd⟩)⟩
          · exact .inr ⟨ms, PyData.tuple.inj e, pre.ok, .inr (.inr ⟨er, pre, g⟩)⟩
        clear res2
        refine go_name ?_
        dsimp only
        refine go_seq ?_
        refine ⟨_, rfl, Nat.zero_le _, fun p0 np0 nm0 => ?_⟩
        have s0 := sD.trans (same_up (o := .lst []) np0)
        refine ⟨D, p0, ys, rfl, rfl, SqL.of (same_up np0 _ _ upd_same), SqL.of upd_same, _, rfl, ?_⟩
        rcases main with ⟨j, x, er, hx, bx, pr⟩ | ⟨ms, rfl, ok, rest⟩
        · have ff := filter_first hx bx pr
          have ne : ys.isEmpty = false := by
            cases ys with
            | nil =>
              cases hh : ds.filter fun d => !isMv d (n : Int) with
              | nil => rw [hh] at ff; cases ff
              | cons a b => rw [hh] at hys; cases hys
            | cons a b => rfl
          rw [ne]
          refine iteT ?_
          refine ⟨_, rfl, 1, rfl, D, ys, rfl, SqL.of (same_up np0 _ _ upd_same), fun p1 np1 nm1 => ?_⟩
          have s1 := s0.trans (same_up (o := .lst (cutV ys none (some 1))) np1)
          refine k p1 _ s1 (none_back s0 np1) ?_
          have cut : cutV ys none (some 1) = ys.take 1 := cut_to ys 1
          rw [er]
          refine .lst nm1 (SqL.of upd_same) ?_
          have h9 := (hys.take 1).keep s1
          rw [ff, ← cut] at h9
          exact h9
        · rw [filter_none ok] at hys
          cases hys
          refine iteF ?_
          obtain ⟨qs, rfl, rfl, hq⟩ := dr_mvs ha
          have okq : ∀ r ∈ qs, OkMv n r.2 := fun r hr => ok r.2 (List.mem_map.mpr ⟨r, hr, rfl⟩)
          have oc : ∀ p ∈ qs, p.2.c ≤ 122 := fun p hp => (okq p hp).2.2.2
          have few60 : qs.length ≤ 60 := by
            have e : topN (.tuple ((qs.map (·.2)).map mvD)) = ((qs.map (·.2)).map mvD).length := rfl
            rw [e, List.length_map, List.length_map] at ht
            exact ht
          have hM : MvsAt K H l qs := ⟨hs, hq⟩
          generalize upd (upd H D (HO.lst [])) p0 (HO.lst []) = G at s0 ⊢
          have hMG : MvsAt K G l qs := ⟨same_seqT s0 hM.tp, fun p hp => same_seqT s0 (hM.it p hp)⟩
          have kd : (qs.map kp).map (fun p => V.ref p.1) = qs.map fun p => V.ref p.1 := by rw [List.map_map] <;> rfl
          refine ⟨_, rfl, l, _, rfl, .inr hMG.tp, fun l1 n1 => ?_⟩
          have s1 := same_up (o := .lst (qs.map fun p => V.ref p.1)) n1
          refine ⟨_, rfl, l, qs.map kp, rfl, .inl (by rw [kd]; exact same_seqT s1 hMG.tp), fun p hp => ?_, by rw [List.length_map]; omega, fun a L na h1 h2 h3 h4 => ?_⟩
          · obtain ⟨q, hq', rfl⟩ := List.mem_map.mp hp
            exact same_seqT s1 (hMG.it q hq')
          have s2 := s1.trans (same_up (o := SetMO P w a L) na)
          have gk : ∀ {H2 : Hp}, Same G H2 → ∀ p ∈ qs.map kp, SqT K H2 p.1 (p.2.map kV) := fun S p hp => by
            obtain ⟨q, hq', rfl⟩ := List.mem_map.mp hp
            exact same_seqT S (hMG.it q hq')
          refine ⟨a, L, rfl, upd_same, fun p hp => gk s2 p (h1 p hp), fun d hd d' hd' => ?_, fun p hp => ?_, fun ys b py srt nb => ?_⟩
          · obtain ⟨p, hp, rfl⟩ := List.mem_map.mp hd
            obtain ⟨p', hp', rfl⟩ := List.mem_map.mp hd'
            obtain ⟨q, _, rfl⟩ := List.mem_map.mp (h1 p hp)
            obtain ⟨q', _, rfl⟩ := List.mem_map.mp (h1 p' hp')
            simp [encM, kp, mvK, keyD, PySem.W.alike, PySem.W.alikeAll]
          · obtain ⟨q, _, rfl⟩ := List.mem_map.mp (h1 p hp)
            exact fun z => by cases z
          have memy : ∀ y ∈ ys, y ∈ qs.map kp := fun y hy => h1 y (py.mem_iff.mp hy)
          obtain ⟨rs, rfl, hrs⟩ : ∃ rs : List (Addr × Mv), ys = rs.map kp ∧ ∀ r ∈ rs, r ∈ qs := by
            clear srt nb py
            induction ys with
            | nil => exact ⟨[], rfl, fun _ h => nomatch h⟩
            | cons y ys ih =>
              obtain ⟨rs, e1, e2⟩ := ih fun y hy => memy y (.tail _ hy)
              obtain ⟨q, hq', e3⟩ := List.mem_map.mp (memy y List.mem_cons_self)
              refine ⟨q :: rs, by rw [List.map_cons, e3, e1], fun r hr => ?_⟩
              rcases List.mem_cons.mp hr with z | z
              · rw [z]
                exact hq'
              · exact e2 r z
          have kd2 : (rs.map kp).map (fun p => V.ref p.1) = rs.map fun p => V.ref p.1 := by rw [List.map_map] <;> rfl
          rw [kd2]
          have s3 := s2.trans (same_up (o := .lst (rs.map fun p => V.ref p.1)) nb)
          have e1 : upd (upd (upd G l1 (.lst (qs.map fun p => V.ref p.1))) a (SetMO P w a L)) b (.lst (rs.map fun p => V.ref p.1)) l1 = some (.lst (qs.map fun p => V.ref p.1)) := by
            rw [upd_ne (ne_of_none (by rw [upd_ne (ne_of_none upd_same na)]; exact upd_same) nb), upd_ne (ne_of_none upd_same na)]
            exact upd_same
          have dp : DpAll K (upd (upd (upd G l1 (.lst (qs.map fun p => V.ref p.1))) a (SetMO P w a L)) b (.lst (rs.map fun p => V.ref p.1))) (qs.map fun p => V.ref p.1) (qs.map fun p => mvD p.2) := dp_mvs fun p hp => same_seqT s3 (hMG.it p hp)
          have dp2 : DpAll K (upd (upd (upd G l1 (.lst (qs.map fun p => V.ref p.1))) a (SetMO P w a L)) b (.lst (rs.map fun p => V.ref p.1))) (rs.map fun p => V.ref p.1) (rs.map fun p => mvD p.2) := dp_mvs fun p hp => same_seqT s3 (hMG.it p (hrs p hp))
          refine ⟨.list (qs.map fun (p : Addr × Mv) => mvD p.2), .list (rs.map fun (p : Addr × Mv) => mvD p.2), Dp.lst (K := K) (SqL.of e1) dp, Dp.lst (K := K) (SqL.of upd_same) dp2, shaped_mvs qs oc, shaped_mvs rs (fun p hp => oc p (hrs p hp)), _, rfl, ?_⟩
          have e4 : PyData.eqv (.list (qs.map fun (p : Addr × Mv) => mvD p.2)) (.list (rs.map fun (p : Addr × Mv) => mvD p.2)) = decide ((qs.map (·.2)).Pairwise mvLt) := by
            have h := eqv_mvs (qs.map (·.2)) (rs.map (·.2))
            rw [List.map_map, List.map_map] at h
            refine Eq.trans h ?_
            rw [Bool.eq_iff_iff, decide_eq_true_eq, decide_eq_true_eq]
            constructor
            · intro e
              rw [e]
              have nd : ((rs.map kp).map (·.2)).Nodup := ((py.map (·.2)).nodup_iff).mpr h3
              unfold List.Nodup at nd
              rw [List.pairwise_map, List.pairwise_map] at nd
              rw [List.pairwise_map] at srt
              rw [List.pairwise_map]
              refine (srt.and nd).imp fun {x y} z => ?_
              rcases mvLt_tri x.2 y.2 with c | c | c
              · exact c
              · exact absurd (by show mvK x.2 = mvK y.2; rw [c]) z.2
              · have w := leM_lt c y.1 x.1
                have z1 : leM (x.1, mvK x.2) (y.1, mvK y.2) = true := z.1
                rw [w] at z1
                cases z1
            · intro asc
              have asc' := asc_of_lt asc
              have pL : L.Perm (qs.map kp) := perm_of_subs h1 h2 h3 (asc_keys asc')
              have := rising_one (py.trans pL) srt asc'
              have e9 := congrArg (List.map fun x : Addr × List Key => x.2) this
              rw [List.map_map, List.map_map] at e9
              have inj : ∀ (l m : List (Addr × Mv)), l.map ((fun x : Addr × List Key => x.2) ∘ kp) = m.map ((fun x : Addr × List Key => x.2) ∘ kp) → l.map (·.2) = m.map (·.2) := by
                intro l
                induction l with
                | nil => intro m h; cases m with
                  | nil => rfl
                  | cons a b => cases h
                | cons a l ih => intro m h; cases m with
                  | nil => cases h
                  | cons b m =>
                    obtain ⟨e1, e2⟩ := List.cons.inj h
                    have em : a.2 = b.2 := mvK_inj e1
                    rw [List.map_cons, List.map_cons, ih m e2, em]
              exact (inj _ _ e9).symm
          rw [e4]
          obtain ⟨G3, hG3⟩ : ∃ G3, upd (upd (upd G l1 (.lst (qs.map fun p => V.ref p.1))) a (SetMO P w a L)) b (.lst (rs.map fun p => V.ref p.1)) = G3 := ⟨_, rfl⟩
          rw [hG3] at s3
          erw [hG3]
          have S3 := s0.trans s3
          clear hG3 dp dp2 e1 e4 srt py nb gk h1 h2 h3 h4 s1 s2 hrs memy
          rcases rest with ⟨er, na⟩ | rest
          · rw [decide_eq_false na]
            refine iteT ?_
            exact out _ er S3
          have asc : (qs.map (·.2)).Pairwise mvLt := by
            rcases rest with ⟨b, _, pre, _⟩ | ⟨_, pre, _⟩
            · exact pre.asc
            · exact pre.asc
          rw [decide_eq_true asc]
          refine iteF ?_
          have hM3 : ∀ {H' : Hp}, Same G3 H' → MvsAt K H' l qs := fun S => ⟨same_seqT S (same_seqT S3 hM.tp), fun p hp => same_seqT S (same_seqT S3 (hM.it p hp))⟩
          refine ⟨by show 2 ≤ sizeLine; decide, fun t nt => ?_⟩
          have sT0 := same_up (o := .tup [.int 0, .int 2]) nt
          refine ⟨t, rfl, ⟨_, SqT.of upd_same⟩, ?_⟩
          refine for_tup (K := K) (a := t) (xs := [.int 0, .int 2]) (fun i σ H' => ∃ v7 : Option V, σ = [some (.ref q), some (.int (n : Int)), some (.int (st : Int)), some (.int (la : Int)), some (.ref l), none, some (.ref D), v7, none, none, none, none, none, none] ∧ Same G3 H' ∧ SqT K H' t [.int 0, .int 2] ∧ (1 ≤ i → (qs.map fun r => eK 0 r.2).Nodup) ∧ (2 ≤ i → (qs.map fun r => eK 2 r.2).Nodup))
            ⟨none, rfl, sT0, SqT.of upd_same, fun h => absurd h (by decide), fun h => absurd h (by decide)⟩ (fun i σ H' _ ⟨_, _, _, h, _⟩ => h) ?_ ?_
          · rintro i y σ H' hi ⟨v7, rfl, S', ht', nd0, nd2⟩
            obtain ⟨e, rfl, he, hei⟩ : ∃ e : Int, y = .int e ∧ (e = 0 ∨ e = 2) ∧ ((i = 0 ∧ e = 0) ∨ (i = 1 ∧ e = 2)) := by
              rcases i with _ | _ | i
              · cases hi
                exact ⟨0, rfl, .inl rfl, .inl ⟨rfl, rfl⟩⟩
              · cases hi
                exact ⟨2, rfl, .inr rfl, .inr ⟨rfl, rfl⟩⟩
              · cases hi
            refine ⟨_, rfl, _, rfl, l, qs, e, rfl, he, hM3 S', by omega, fun p H4 S4 np hp => ?_⟩
            refine ⟨Nat.zero_le _, fun p0 np0 nm0 => ?_⟩
            have s5 := same_up (o := .lst []) np0
            refine ⟨p, p0, _, rfl, rfl, SqL.of (s5 _ _ hp), SqL.of upd_same, _, rfl, ?_⟩
            have S5 := (S'.trans S4).trans s5
            by_cases nd : (qs.map fun r => eK e r.2).Nodup
            · rw [twG_nil nd]
              refine iteF ?_
              refine ⟨_, rfl, S5, same_seqT (S4.trans s5) ht', fun _ => ?_, fun h2 => ?_⟩
              · rcases hei with ⟨_, rfl⟩ | ⟨rfl, rfl⟩
                · exact nd
                · exact nd0 (Nat.le_refl _)
              · rcases hei with ⟨rfl, rfl⟩ | ⟨rfl, rfl⟩
                · exact absurd h2 (by decide)
                · exact nd
            · have cw : ∃ m, r = some (mvD m) ∧ ClashG e (qs.map (·.2)) m := by
                have mm : ∀ e : Int, (qs.map (·.2)).map (eK e) = qs.map fun r => eK e r.2 := fun e => by rw [List.map_map] <;> rfl
                rcases rest with ⟨b, er, pre, bd⟩ | ⟨er, pre, g⟩
                · cases bd with
                  | one m c =>
                    rcases hei with ⟨_, rfl⟩ | ⟨rfl, rfl⟩
                    · exact ⟨m, er, c⟩
                    · exfalso
                      have n0 := nd0 (Nat.le_refl _)
                      obtain ⟨p, rest, e1, _⟩ := twG_first c
                      rw [twG_nil n0] at e1
                      cases e1
                  | two m n0 c =>
                    rcases hei with ⟨_, rfl⟩ | ⟨rfl, rfl⟩
                    · rw [mm] at n0
                      exact absurd n0 nd
                    · exact ⟨m, er, c⟩
                  | off x n0 n2 =>
                    rw [mm] at n0 n2
                    rcases hei with ⟨_, rfl⟩ | ⟨rfl, rfl⟩
                    · exact absurd n0 nd
                    · exact absurd n2 nd
                · have n0 := g.e0
                  have n2 := g.e2
                  rw [mm] at n0 n2
                  rcases hei with ⟨_, rfl⟩ | ⟨rfl, rfl⟩
                  · exact absurd n0 nd
                  · exact absurd n2 nd
              obtain ⟨m, er, c⟩ := cw
              obtain ⟨pf, tl, etw, epf, pfm⟩ := twG_first c
              rw [etw]
              refine iteT ?_
              refine ⟨_, rfl, _, rfl, l, qs, e, rfl, he, hM3 S5, by omega, fun p2 H6 S6 np2 hp2 => ?_⟩
              rw [etw] at hp2
              refine ⟨1, rfl, p2, _, rfl, SqL.of hp2, fun p3 np3 nm3 => ?_⟩
              have cut : cutV ((pf :: tl).map fun r => V.ref r.1) none (some 1) = [.ref pf.1] := cut_to ((pf :: tl).map fun r => V.ref r.1) 1
              have s7 := same_up (o := .lst (cutV ((pf :: tl).map fun r => V.ref r.1) none (some 1))) np3
              have S7 := S3.trans ((S5.trans S6).trans s7)
              refine k p3 _ S7 (none_back (S3.trans (S5.trans S6)) np3) ?_
              rw [er, cut]
              refine .lst nm3 (SqL.of upd_same) (.cons ?_ .nil)
              rw [← epf]
              rw [cut] at S7
              exact mv_dr (same_seqT S7 (hM.it pf pfm))
          · rintro σ H4 ⟨v7, rfl, S4, _, nd0, nd2⟩
            have nd0 := nd0 (by decide)
            have nd2 := nd2 (by decide)
            dsimp only
            refine go_seq ?_
            refine ⟨_, rfl, _, rfl, l, rfl, ⟨_, (hM3 S4).tp⟩, fun DA nDA => ?_⟩
            refine lc_tup (K := K) (a := l) (xs := qs.map fun p => V.ref p.1) (fun i' H' => ∃ ps : List (Addr × Nat × Nat), ps.map (·.2) = (qs.take i').map (fun p => (p.2.s, p.2.t)) ∧ ps.length ≤ i' ∧ Same H4 H' ∧ PairsM H' DA ps)
              ⟨[], rfl, Nat.le_refl _, same_up nDA, ⟨upd_same, fun p hp => nomatch hp⟩⟩ (fun i' H' _ ⟨_, _, _, S, _⟩ => (hM3 (S4.trans S)).tp) ?_ ?_
            · rintro i' y H' hi' ⟨ps, ep, pl, S, PS⟩
              rw [List.getElem?_map] at hi'
              obtain ⟨p, hp, rfl⟩ := Option.map_eq_some_iff.mp hi'
              have il : i' < qs.length := (List.getElem?_eq_some_iff.mp hp).1
              refine ⟨p.1, _, rfl, (hM3 (S4.trans S)).it p (List.mem_of_getElem? hp), rfl, _, _, rfl, _, _, rfl, _, _, rfl, rfl, ⟨rfl, ?_⟩⟩
              refine ⟨_, rfl, _, rfl, by show 2 ≤ sizeLine; decide, fun t nt => ?_⟩
              have nDt : DA ≠ t := ne_of_none PS.ls nt
              obtain ⟨A1, A2⟩ := PS.add (a := p.2.s) (b := p.2.t) nt nDA S
              refine ⟨_, by rw [upd_ne nDt]; exact PS.ls, by rw [List.length_map, sizeLine_eq]; omega, ps ++ [(t, p.2.s, p.2.t)], ?_, by rw [List.length_append]; exact Nat.succ_le_succ pl, A1, A2⟩
              rw [List.map_append, ep, List.take_add_one, hp, List.map_append] <;> rfl
            rintro AH8 ⟨psA, eppsA, plpsA, S8psA, PpsA⟩
            rw [List.length_map, List.take_length] at eppsA
            rw [List.length_map] at plpsA
            have bdpsA : ∀ p ∈ psA, p.2.1 < n ∧ p.2.2 < n := fun p hp => by
              have : p.2 ∈ psA.map (·.2) := List.mem_map.mpr ⟨p, hp, rfl⟩
              rw [eppsA] at this
              obtain ⟨q, hq, e⟩ := List.mem_map.mp this
              rw [← e]
              exact ⟨(okq q hq).1, (okq q hq).2.1⟩
            refine ⟨st, n, DA, psA, rfl, SqL.of PpsA.ls, fun p hp => SqT.of (PpsA.it p hp), bdpsA, hst, by omega, by omega, fun A0 A H9 S9 nA0 hA LA ltA => ?_⟩
            rw [eppsA] at LA
            have S49 := (S4.trans S8psA).trans S9
            refine ⟨_, rfl, _, rfl, l, rfl, ⟨_, (hM3 S49).tp⟩, fun DB nDB => ?_⟩
            refine lc_tup (K := K) (a := l) (xs := qs.map fun p => V.ref p.1) (fun i' H' => ∃ ps : List (Addr × Nat × Nat), ps.map (·.2) = (qs.take i').map (fun p => (p.2.t, p.2.s)) ∧ ps.length ≤ i' ∧ Same H9 H' ∧ PairsM H' DB ps)
              ⟨[], rfl, Nat.le_refl _, same_up nDB, ⟨upd_same, fun p hp => nomatch hp⟩⟩ (fun i' H' _ ⟨_, _, _, S, _⟩ => (hM3 (S49.trans S)).tp) ?_ ?_
            · rintro i' y H' hi' ⟨ps, ep, pl, S, PS⟩
              rw [List.getElem?_map] at hi'
              obtain ⟨p, hp, rfl⟩ := Option.map_eq_some_iff.mp hi'
              have il : i' < qs.length := (List.getElem?_eq_some_iff.mp hp).1
              refine ⟨p.1, _, rfl, (hM3 (S49.trans S)).it p (List.mem_of_getElem? hp), rfl, _, _, rfl, _, _, rfl, _, _, rfl, rfl, ⟨rfl, ?_⟩⟩
              refine ⟨_, rfl, _, rfl, by show 2 ≤ sizeLine; decide, fun t nt => ?_⟩
              have nDt : DB ≠ t := ne_of_none PS.ls nt
              obtain ⟨A1, A2⟩ := PS.add (a := p.2.t) (b := p.2.s) nt nDB S
              refine ⟨_, by rw [upd_ne nDt]; exact PS.ls, by rw [List.length_map, sizeLine_eq]; omega, ps ++ [(t, p.2.t, p.2.s)], ?_, by rw [List.length_append]; exact Nat.succ_le_succ pl, A1, A2⟩
              rw [List.map_append, ep, List.take_add_one, hp, List.map_append] <;> rfl
            rintro BH8 ⟨psB, eppsB, plpsB, S8psB, PpsB⟩
            rw [List.length_map, List.take_length] at eppsB
            rw [List.length_map] at plpsB
            have bdpsB : ∀ p ∈ psB, p.2.1 < n ∧ p.2.2 < n := fun p hp => by
              have : p.2 ∈ psB.map (·.2) := List.mem_map.mpr ⟨p, hp, rfl⟩
              rw [eppsB] at this
              obtain ⟨q, hq, e⟩ := List.mem_map.mp this
              rw [← e]
              exact ⟨(okq q hq).2.1, (okq q hq).1⟩
            refine ⟨la, n, DB, psB, rfl, SqL.of PpsB.ls, fun p hp => SqT.of (PpsB.it p hp), bdpsB, hla, by omega, by omega, fun B0 Bs H11 S11 nB0 hB LB ltB => ?_⟩
            rw [eppsB] at LB
            have S9b := S8psB.trans S11
            have hA11 := S9b _ _ hA
            refine ⟨by show 2 ≤ sizeLine; decide, fun t2 nt2 => ?_⟩
            have sT2 := same_up (o := .tup [.ref A0, .ref B0]) nt2
            refine ⟨t2, _, rfl, SqT.of upd_same, rfl, _, _, rfl, _, _, rfl, rfl, ?_⟩
            dsimp only
            have hA12 := sT2 _ _ hA11
            have hB12 := sT2 _ _ hB
            have S12 := S3.trans ((S49.trans S9b).trans sT2)
            generalize upd H11 t2 (.tup [.ref A0, .ref B0]) = H12 at hA12 hB12 S12 ⊢
            refine ⟨_, rfl, (n : Int), rfl, by omega, by omega, fun DK nDK => ?_⟩
            rw [Int.toNat_natCast]
            have rnin : ∀ {p : Addr} {l : List Nat} {x : Nat} {H : Hp} {Q : VK}, H p = some (.lst (nI l)) → Q (.bl (!decide (x ∈ l))) H → rIn K true (.int (x : Int)) (.ref p) H Q := fun {p l x H Q} h q => ⟨p, _, rfl, .inl (SqL.of h), rfl, flat_nI _, by rw [if_pos rfl, inV_nI]; exact q⟩
            refine lc_range (lo := 0) (n := n) (fun i' H' => H' = upd H12 DK (.lst (nI ((List.range i').filter fun k => !decide (k ∈ A) || !decide (k ∈ Bs))))) rfl ?_ ?_
            · rintro i' H' hi' rfl
              have e0 : (0 : Int) + (i' : Nat) = ((i' : Nat) : Int) := by omega
              rw [e0]
              have SK := same_up (o := .lst (nI ((List.range i').filter fun k => !decide (k ∈ A) || !decide (k ∈ Bs)))) nDK
              have lk : ((List.range i').filter fun k => !decide (k ∈ A) || !decide (k ∈ Bs)).length ≤ i' := Nat.le_trans (List.length_filter_le _ _) (Nat.le_of_eq List.length_range)
              refine ⟨rfl, ?_⟩
              refine ⟨_, rfl, _, rfl, rnin (SK _ _ hA12) ⟨_, rfl, ?_⟩⟩
              have yes : (!decide (i' ∈ A) || !decide (i' ∈ Bs)) = true → ∃ acc, (upd H12 DK (.lst (nI ((List.range i').filter fun k => !decide (k ∈ A) || !decide (k ∈ Bs))))) DK = some (.lst acc) ∧ acc.length < sizeLine ∧ upd (upd H12 DK (.lst (nI ((List.range i').filter fun k => !decide (k ∈ A) || !decide (k ∈ Bs))))) DK (.lst (acc ++ [.int (i' : Int)])) = upd H12 DK (.lst (nI ((List.range (i' + 1)).filter fun k => !decide (k ∈ A) || !decide (k ∈ Bs)))) := fun h => by
                refine ⟨_, upd_same, by rw [nI_len, sizeLine_eq]; omega, ?_⟩
                rw [upd_upd, filter_range, h, if_pos rfl, ← nI_app]
                rfl
              by_cases a1 : i' ∈ A
              · rw [decide_eq_true a1]
                refine iteF ?_
                refine ⟨_, rfl, _, rfl, rnin (SK _ _ hB12) ⟨_, rfl, ?_⟩⟩
                by_cases a2 : i' ∈ Bs
                · rw [decide_eq_true a2]
                  refine iteF ?_
                  rw [filter_range, decide_eq_true a1, decide_eq_true a2]
                  show _ = upd H12 DK (.lst (nI (_ ++ [])))
                  rw [List.append_nil]
                · rw [decide_eq_false a2]
                  refine iteT ?_
                  exact ⟨_, rfl, yes (by rw [decide_eq_false a2, Bool.or_comm] <;> rfl)⟩
              · rw [decide_eq_false a1]
                refine iteT ?_
                refine iteT ?_
                exact ⟨_, rfl, yes (by rw [decide_eq_false a1] <;> rfl)⟩
            rintro H13 rfl
            refine ⟨1, rfl, DK, _, rfl, SqL.of upd_same, fun p3 np3 nm3 => ?_⟩
            have SK := S12.trans (same_up (o := .lst (nI ((List.range n).filter fun k => !decide (k ∈ A) || !decide (k ∈ Bs)))) nDK)
            have cut : cutV (nI ((List.range n).filter fun k => !decide (k ∈ A) || !decide (k ∈ Bs))) none (some 1) = nI (((List.range n).filter fun k => !decide (k ∈ A) || !decide (k ∈ Bs)).take 1) := by
              refine Eq.trans (cut_to _ 1) ?_
              unfold nI
              rw [List.map_take]
            rw [cut]
            refine k p3 _ (SK.trans (same_up np3)) (none_back SK np3) ?_
            have mA : ∀ x, x ∈ A ↔ ToIt st ((qs.map (·.2)).map fun m => (m.s, m.t)) x := fun x => by rw [List.map_map]; exact led_to LA x
            have mB : ∀ x, x ∈ Bs ↔ ToIt la ((qs.map (·.2)).map fun m => (m.t, m.s)) x := fun x => by rw [List.map_map]; exact led_to LB x
            rcases rest with ⟨b, er, pre, bd⟩ | ⟨er, pre, g⟩
            · cases bd with
              | one m c =>
                obtain ⟨p, rest, e1, _⟩ := twG_first c
                rw [twG_nil nd0] at e1
                cases e1
              | two m n0 c =>
                obtain ⟨p, rest, e1, _⟩ := twG_first c
                rw [twG_nil nd2] at e1
                cases e1
              | off x n0 n2 xn a1 a2 bb =>
                have off : x ∉ A ∨ x ∉ Bs := by
                  rcases bb with bb | bb
                  · rw [List.map_map] at bb
                    exact .inl (not_to LA bb)
                  · rw [List.map_map] at bb
                    exact .inr (not_to LB bb)
                rw [off_first xn (fun y hy => ⟨(mA y).mpr (a1 y hy), (mB y).mpr (a2 y hy)⟩) off, er]
                exact .lst nm3 (SqL.of upd_same) (.cons (.int _) .nil)
            · have hn : ∀ y, y < n → y ∈ A ∧ y ∈ Bs := fun y hy => ⟨(mA y).mpr fun S a b => g.fw S a b y hy, (mB y).mpr fun S a b => g.bw S a b y hy⟩
              rw [off_none hn, er]
              exact .lst nm3 (SqL.of upd_same) .nil
end
end Vk
set_option Elab.async false
set_option linter.all false
set_option maxRecDepth 100000
set_option maxHeartbeats 4000000
namespace Vk
open PySem PySem.Spec PyProof.Rows L2 Vt PySem.Vx Vs1 ClX HT
section
variable {prog : Program} {w : World} {A : Around} {E : Value → Shared → Prop} {s : Shared}
theorem sliceApplied_rev {sl : Addr} {vl vu vs : Value} {n : Nat} {Q : Int × Int × Nat → Shared → Prop} (hs : s.heap.IsSliceOf sl vl vu vs) (pl : IsPart vl none) (pu : IsPart vu none) (ps : IsPart vs (some (-1)))
    (h : Q ((n : Int) - 1, -1, n) s) : wpAny (model prog w) A (Builtin.Slice.sliceApplied (.ref sl) (pure (n : Int))) Q E s := by
  obtain ⟨os, hos, hcs, hds⟩ := id hs
  unfold Builtin.Slice.sliceApplied Builtin.Slice.sliceFields
  refine wpAny_bind (wpAny_bind (wpAny_field hos hds (x := vl) rfl (wpAny_bind (wpAny_field hos hds (x := vu) rfl (wpAny_bind (wpAny_field hos hds (x := vs) rfl (wpAny_pure ?_)))))))
  refine wpAny_bind (slicePart_ ps ?_)
  show wpAny _ _ (if ((-1 : Int) == 0) = true then _ else _) _ _ s
  rw [if_neg (by decide)]
  refine wpAny_bind (slicePart_ pl (wpAny_bind (slicePart_ pu (wpAny_bind (wpAny_pure ?_)))))
  show wpAny _ _ (pure ((n : Int) - 1, (-1 : Int), Builtin.Slice.slicePlaces ((n : Int) - 1) (-1) (-1))) _ _ s
  have e : Builtin.Slice.slicePlaces ((n : Int) - 1) (-1) (-1) = n := by
    unfold Builtin.Slice.slicePlaces
    rw [if_neg (by decide)]
    have e1 : ∀ z : Int, z / (- -1) = z := fun z => Int.ediv_one z
    rw [e1]
    split <;> omega
  rw [e]
  exact wpAny_pure h
theorem pick_rev (xs : Array Value) : ((List.range xs.size).filterMap fun (m : Nat) => xs[(((xs.size : Int) - 1) + (m : Int) * (-1)).toNat]?).toArray = xs.toList.reverse.toArray := by
  congr 1
  refine List.ext_getElem? fun i => ?_
  have hall : ∀ k, k ≤ xs.size → (List.range k).filterMap (fun (m : Nat) => xs[(((xs.size : Int) - 1) + (m : Int) * (-1)).toNat]?) = xs.toList.reverse.take k := by
    intro k
    induction k with
    | zero => exact fun _ => rfl
    | succ k ih =>
      intro hk
      have e : (((xs.size : Int) - 1) + (k : Int) * (-1)).toNat = xs.size - 1 - k := by omega
      rw [List.range_succ, List.filterMap_append, ih (by omega), List.take_add_one]
      congr 1
      have lt : xs.size - 1 - k < xs.size := by omega
      rw [List.filterMap_cons, List.filterMap_nil, e, Array.getElem?_eq_getElem lt]
      rw [List.getElem?_reverse (by rw [Array.length_toList]; omega)]
      simp [List.getElem?_eq_getElem, lt]
  rw [hall xs.size (Nat.le_refl _), List.take_of_length_le (by simp)]
theorem getItem_tuple_rev {t sl : Addr} {items : Array Value} {vl vu vs : Value} {Q : Value → Shared → Prop} (ht : IsTup s.heap t items) (hs : s.heap.IsSliceOf sl vl vu vs) (pl : IsPart vl none) (pu : IsPart vu none) (ps : IsPart vs (some (-1)))
    (h : Q (.ref s.heap.objs.size) { s with heap := s.heap.push { cls := .type "tuple", data := .seq items.toList.reverse.toArray } })
    (hsz : items.size ≤ sizeLine) : wpAny (model prog w) A (getItem (.ref t) (.ref sl)) Q E s := by
  have htake : sizeOk (.seq items.toList.reverse.toArray) := by
    show items.toList.reverse.toArray.size ≤ sizeLine
    rw [List.size_toArray, List.length_reverse, Array.length_toList]
    exact hsz
  obtain ⟨os, hos, hcs, hds⟩ := id hs
  have hTs : s.TypeIs (.ref sl) "slice" := ⟨os, hos, hcs⟩
  unfold getItem
  try with_reducible refine wpAny_holding ?_
  first | refine wpAny_bind (wpAny_pure ?_) | skip
  refine wpAny_bind (wpAny_sequenceKey ht.typeIs (by decide) ?_)
  refine wpAny_bind (wpAny_callSpecial?_slot (name := Str.ofString "__getitem__") ht.typeIs PyProof.Rows.slot_tuple_getitem
    (wpAny_call_entry PyProof.Rows.slot_tuple_getitem ht.typeIs entry_tuple_getitem ?_ (args_tuple_getitem _ _)))
  show wpAny _ _ (Builtin.Tuple.tupleItemsOf (.ref t) >>= _) _ _ s
  refine wpAny_bind (tupleItemsOf_ ht ?_)
  refine wpAny_bind (wpAny_typeOf hTs ?_)
  rw [if_pos (by decide)]
  refine wpAny_bind (sliceApplied_rev hs pl pu ps ?_)
  have hno : ¬ ((((items.size : Int) - 1) == 0 && (-1 : Int) == 1 && items.size == items.size) = true) := by
    intro q
    rw [Bool.and_eq_true, Bool.and_eq_true] at q
    exact absurd q.1.2 (by decide)
  show wpAny _ _ (if (((items.size : Int) - 1) == 0 && (-1 : Int) == 1 && items.size == items.size) = true then _ else _) _ _ s
  rw [if_neg hno, pick_rev]
  first
    | exact wpAny_bind (m := Builtin.Tuple.tupleExact _) (wpAny_newObj_type (wpAny_pure ⟨_, rfl, wpAny_pure h⟩) htake)
    | exact wpAny_bind (m := Builtin.Tuple.tupleExact _) (wpAny_newObj_type (wpAny_bind (wpAny_pure (wpAny_pure ⟨_, rfl, wpAny_pure h⟩))) htake)
    | exact wpAny_bind (wpAny_bind (m := Builtin.Tuple.tupleExact _) (wpAny_newObj_type (wpAny_pure (wpAny_pure ⟨_, rfl, wpAny_pure h⟩)) htake))
    | exact wpAny_bind (wpAny_bind (m := Builtin.Tuple.tupleExact _) (wpAny_newObj_type (wpAny_pure ⟨_, rfl, wpAny_pure h⟩) htake))
end
def tRevT (K : PySem.W.Frag) (te : TE) : TE := fun σ H Q => te σ H fun x H1 => ∃ a xs, x = .ref a ∧ SqT K H1 a xs ∧ ∀ p, H1 p = none → Q (.ref p) (upd H1 p (.tup xs.reverse))
theorem pe_revT {X : Cx} {e : Expr} {te : TE} {k : Nat} {p1 p2 p3 pos : Pos} (he : PE X e te) : PE X (.Subscript e (.Slice none none (some (.UnaryOp .USub (.Constant (.int 1) k p1) p2)) p3) pos) (tRevT X.K te) := by
  refine ⟨fun pins s σ H Q I h => ?_⟩
  refine Subscript_ (thn (he.run pins s σ H _ I h) fun v s1 ⟨x, H1, I1, r1, q1⟩ => ?_)
  obtain ⟨a, xs, ex, hx, q⟩ := q1
  subst ex
  cases r1
  have hst : PO X (some (.UnaryOp .USub (.Constant (.int 1) k p1) p2)) (tPart (tUn (rU fun i => .int (-i)) (tC (.int 1)))) := po_some (pe_un un_neg pe_int)
  refine wpAny_Slice (thn (po_none.run pins s1 σ H1 (fun o H2 => o = none ∧ H2 = H1) I1 ⟨rfl, rfl⟩) fun vl s2 ⟨l, H2, I2, pl, el, e2⟩ => ?_)
  subst el e2
  refine thn (po_none.run pins s2 σ H2 (fun o H3 => o = none ∧ H3 = H2) I2 ⟨rfl, rfl⟩) fun vu s3 ⟨u, H3, I3, pu, eu, e3⟩ => ?_
  subst eu e3
  refine thn (hst.run pins s3 σ H3 (fun o H4 => o = some (-1) ∧ H4 = H3) I3 ⟨1, rfl, -1, rfl, rfl, rfl⟩) fun vs s4 ⟨o, H4, I4, ps, eo, e4⟩ => ?_
  subst eo e4
  have I5 : Inv X pins σ H4 { s4 with heap := s4.heap.push { cls := .type "slice", data := .fields #[vl, vu, vs] } } := I4.kept (t' := s4.toks) fun b ob q => Heap.get?_push_of_some _ q
  obtain ⟨its, r, ht, hz⟩ := I5.tuple hx
  have hlen := r.length
  show wpAny (model X.prog X.w) X.A (subscriptTail e (.Slice none none (some (.UnaryOp .USub (.Constant (.int 1) k p1) p2)) p3) (.ref a) (.ref s4.heap.objs.size)) (EP X pins σ Q) X.xe { s4 with heap := s4.heap.push { cls := .type "slice", data := .fields #[vl, vu, vs] } }
  refine tail_any (ops := [.ref a, .ref s4.heap.objs.size]) ht.typeIs (PyProof.Rows.slot_tuple_getitem.lookup) ?_ (by with_unfolding_all rfl)
  refine getItem_tuple_rev ht (Heap.IsSliceOf.new _ vl vu vs) pl pu ps ?_ (by rw [List.size_toArray]; omega)
  refine ⟨.ref _, _, I5.laid (t' := s4.toks) (o := .tup xs.reverse) (fun b ob q => Heap.get?_push_of_some _ q) (Nat.le_refl _) ?_, rfl, q _ (I5.hok.fresh (Nat.le_refl _))⟩
  exact ⟨by rw [List.length_reverse]; exact hz, _, r.reverse, IsTup.new _ _⟩
/-! ## a tuple against the empty one -/
def rNeT (K : PySem.W.Frag) : R2 := fun x y H Q => ∃ a b xs, x = .ref a ∧ y = .ref b ∧ SqT K H a xs ∧ SqT K H b [] ∧ Q (.bl (!xs.isEmpty)) H
theorem op_neT {X : Cx} (hu : X.A.units + 64 < cLine) : OpR X (compareOp .NotEq) (rNeT X.K) := by
  intro pins s σ H x y v u Q I rx ry h
  obtain ⟨a, b, xs, rfl, rfl, ha, hb, q⟩ := h
  cases rx
  cases ry
  obtain ⟨its, r, p, _⟩ := I.tuple ha
  obtain ⟨its2, r2, p2, _⟩ := I.tuple hb
  have l2 : its2 = [] := by
    have := r2.length
    exact List.length_eq_zero_iff.mp this.symm
  subst l2
  have l1 := r.length
  have R : SeqAt.RcNeAt X.A s (.ref a) (.ref b) (!((List.range (min its.toArray.size (#[] : Array Value).size)).all (fun _ => true) && its.toArray.size == (#[] : Array Value).size)) :=
    SeqAt.RcNeAt.tuples (items := its.toArray) (items2 := #[]) (e := fun _ => true) (show s.heap.IsTuple a its.toArray from p) (show s.heap.IsTuple b #[] from p2) (by omega) (fun j _ h1 => absurd h1 (Nat.not_lt_zero _))
  have e : (!((List.range (min its.toArray.size (#[] : Array Value).size)).all (fun _ => true) && its.toArray.size == (#[] : Array Value).size)) = !xs.isEmpty := by
    cases its with
    | nil =>
      have l3 : xs = [] := List.length_eq_zero_iff.mp l1
      rw [l3] <;> rfl
    | cons i its =>
      cases xs with
      | nil => cases l1
      | cons x xs => simp
  rw [e] at R
  exact R _ _ _ _ ⟨.bl _, H, I, rfl, q⟩
/-! ## list(t): not the place of sys.modules -/
theorem call_listN {X : Cx} : CallR X (.type "list") (fun xs H Q => ∃ p ys, xs = [.ref p] ∧ SqT X.K H p ys ∧ ∀ l, H l = none → l ≠ sysModules → Q (.ref l) (upd H l (.lst ys))) := by
  intro pins s σ H xs us Q I r h
  obtain ⟨p, ys, rfl, hq, q⟩ := h
  obtain ⟨u, rfl, rx⟩ := vals1 r
  cases rx
  obtain ⟨its, r', pl, hz⟩ := I.tuple hq
  have hlen := r'.length
  obtain ⟨o, ho, hc, n, hd⟩ := (show s.heap.IsTuple p its.toArray from pl)
  refine call_list_seq p (.inr rfl) ho hc hd (fun h' c' kp e => ?_) (by simp only [List.size_toArray] <;> omega)
  exact ⟨.ref s.heap.objs.size, _, I.laid (t' := s.toks) kp (Nat.le_refl _) (show ObjOk X.prog X.w _ h' _ (.lst ys) from ⟨hz, its, c', r', e⟩), rfl, q _ (I.hok.fresh (Nat.le_refl _)) (Nat.ne_of_gt I.big)⟩
/-! ## z.upper() -/
theorem mt_upper {X : Cx} : MtR X "str.upper" (fun x xs H Q => ∃ a, x = .str a ∧ xs = [] ∧ a.length ≤ 5592405 ∧ Q (.str (Txt.upper a)) H) := by
  intro pins s σ H x xs v us Q I rx rxs h
  obtain ⟨a, rfl, rfl, few, q⟩ := h
  obtain ⟨t, rfl⟩ := rx
  cases rxs
  exact PyProof.Rows.SCL.upper few fun _ => ⟨.str (Txt.upper a), H, I.tok _, ⟨_, rfl⟩, q⟩
end Vk
set_option Elab.async false
set_option linter.all false
set_option maxRecDepth 100000
set_option maxHeartbeats 4000000
namespace Vk
open PySem PySem.Spec PyProof.Rows L2 Vt PySem.Vx Vs1 ClX
abbrev sLOdd : Stmt := top8 63
/-! ## the heap but for the deck and one more place -/
def cutH (d g b : Addr) (H : Hp) : Hp := fun a => if a = d ∨ a = g ∨ a = b then none else H a
def Has (H : Hp) (b : Addr) : Prop := ∃ o, H b = some o
theorem Has.same {H H' : Hp} {b : Addr} (h : Has H b) (S : Same H H') : Has H' b := let ⟨o, e⟩ := h; ⟨o, S _ _ e⟩
theorem Has.but {H H' : Hp} {d g b : Addr} (h : Has H b) (B : But d g H H') (n1 : b ≠ d) (n2 : b ≠ g) : Has H' b := let ⟨o, e⟩ := h; ⟨o, B _ _ e n1 n2⟩
theorem cut_same {d g b : Addr} {H : Hp} : Same (cutH d g b H) H := fun c o z => by
  unfold cutH at z
  split at z
  · cases z
  · exact z
theorem cut_but {d g b : Addr} {H H' : Hp} (B : But d g H H') : Same (cutH d g b H) (cutH d g b H') := fun c o z => by
  unfold cutH at z ⊢
  split at z
  · cases z
  · rename_i n
    rw [if_neg n]
    exact B c o z (fun e => n (.inl e)) (fun e => n (.inr (.inl e)))
theorem cut_ex {d g b : Addr} {H H' : Hp} (S : Same H H') : Same (cutH d g b H) (cutH d g b H') := fun c o z => by
  unfold cutH at z ⊢
  split at z
  · cases z
  · rename_i n
    rw [if_neg n]
    exact S c o z
theorem cut_at {d g b p : Addr} {H : Hp} {o : HO} (h : H p = some o) (n1 : p ≠ d) (n2 : p ≠ g) (n3 : p ≠ b) : cutH d g b H p = some o := by
  unfold cutH
  rw [if_neg (fun z => z.elim n1 fun z => z.elim n2 n3)]
  exact h
theorem cut_seqT {K : PySem.W.Frag} {d g b a : Addr} {H : Hp} {m : Int} {xs zs : List V} (D : DeckAt H d g m) (hb : H b = some (.lst zs)) (h : SqT K H a xs) : SqT K (cutH d g b H) a xs := by
  obtain ⟨⟨kvs, h1⟩, ys, h2⟩ := D.two
  have nd : ∀ o, H a = some o → (∀ z, o ≠ .dK z) → (∀ z, o ≠ .lst z) → cutH d g b H a = some o := fun o e x y => cut_at e (fun z => by rw [z, h1] at e; exact x _ (Option.some.inj e).symm) (fun z => by rw [z, h2] at e; exact y _ (Option.some.inj e).symm) (fun z => by rw [z, hb] at e; exact y _ (Option.some.inj e).symm)
  rcases h with (h | ⟨u, h⟩) | h
  · exact .inl (.inl (nd _ h (fun z e => by cases e) (fun z e => by cases e)))
  · exact .inl (.inr ⟨u, nd _ h (fun z e => by cases e) (fun z e => by cases e)⟩)
  · exact .inr h
theorem cut_new {d g b p : Addr} {H : Hp} {o : HO} {m : Int} (D : DeckAt H d g m) (hb : Has H b) (np : H p = none) : cutH d g b (upd H p o) p = some o := cut_at upd_same (D.new np).1 (D.new np).2 (fun z => by
  obtain ⟨u, e⟩ := hb
  rw [← z, np] at e
  cases e)
/-- a change at that place -/
theorem cut_put {d g b : Addr} {H : Hp} {o : HO} : cutH d g b (upd H b o) = cutH d g b H := by
  funext a
  unfold cutH
  split
  · rfl
  · rename_i n
    exact upd_ne (fun z => n (.inr (.inr z)))
/-! ## how great data are -/
mutual
def plB (B : Nat) : PyData → Bool
  | .str z => z.cps.toList.all fun c => decide (c < 128)
  | .int i => decide (i.natAbs < B)
  | .list xs => plBs B xs
  | .tuple xs => plBs B xs
  | .dict kvs => kvs.isEmpty
  | .none => true
  | .bool _ => true
def plBs (B : Nat) : List PyData → Bool
  | [] => true
  | x :: xs => plB B x && plBs B xs
end
theorem plBs_iff {B : Nat} : ∀ {xs : List PyData}, plBs B xs = true ↔ ∀ d ∈ xs, plB B d = true
  | [] => by simp [plBs]
  | x :: xs => by
    rw [plBs, Bool.and_eq_true, plBs_iff]
    simp
mutual
theorem plB_mono {B C : Nat} (h : B ≤ C) : ∀ {d : PyData}, plB B d = true → plB C d = true
  | .str _, z => z
  | .int _, z => decide_eq_true (Nat.lt_of_lt_of_le (of_decide_eq_true z) h)
  | .list xs, z => plBs_mono h (xs := xs) z
  | .tuple xs, z => plBs_mono h (xs := xs) z
  | .dict _, z => z
  | .none, _ => rfl
  | .bool _, _ => rfl
theorem plBs_mono {B C : Nat} (h : B ≤ C) : ∀ {xs : List PyData}, plBs B xs = true → plBs C xs = true
  | [], _ => rfl
  | x :: xs, z => by
    rw [plBs, Bool.and_eq_true] at z ⊢
    exact ⟨plB_mono h z.1, plBs_mono h z.2⟩
end
mutual
theorem plB_plain : ∀ {d : PyData}, plB (10 ^ 41) d = true → plainD d = true
  | .str _, z => z
  | .int _, z => z
  | .list xs, z => plBs_plain (xs := xs) z
  | .tuple xs, z => plBs_plain (xs := xs) z
  | .dict _, z => z
  | .none, _ => rfl
  | .bool _, _ => rfl
theorem plBs_plain : ∀ {xs : List PyData}, plBs (10 ^ 41) xs = true → plainAll xs = true
  | [], _ => rfl
  | x :: xs, z => by
    rw [plBs, Bool.and_eq_true] at z
    rw [plainAll, Bool.and_eq_true]
    exact ⟨plB_plain z.1, plBs_plain z.2⟩
end
theorem depth_all : ∀ {xs : List PyData} {n : Nat}, PyData.depthAll xs ≤ n ↔ ∀ d ∈ xs, d.depth ≤ n
  | [], n => by simp [PyData.depthAll]
  | x :: xs, n => by
    rw [PyData.depthAll, Nat.max_le, depth_all]
    simp
/-- a value of another sort -/
structure OddD (x : PyData) : Prop where
  pl : plB (10 ^ 40) x = true
  wt : wt x ≤ 6
  dp : x.depth ≤ 1
  top : topN x ≤ 2
def oddL : List PyData := [.none, .bool true, .bool false, .int (-1), .int (10 ^ 39), .str "", .str "A", .str "ab", .str " ", .str "a\n", .tuple [], .list [], .dict [], .tuple [.int 0], .tuple [.str "a"], .tuple [.int 0, .str "a"], .list [.str "a"]]
def oddB (x : PyData) : Bool := plB (10 ^ 40) x && (decide (wt x ≤ 6) && (decide (x.depth ≤ 1) && decide (topN x ≤ 2)))
theorem odd_look : oddL.all oddB = true := by decide +kernel
theorem odd_of {x : PyData} (h : x ∈ oddL) : OddD x := by
  have t := List.all_eq_true.mp odd_look x h
  unfold oddB at t
  rw [Bool.and_eq_true, Bool.and_eq_true, Bool.and_eq_true, decide_eq_true_eq, decide_eq_true_eq, decide_eq_true_eq] at t
  exact ⟨t.1, t.2.1, t.2.2.1, t.2.2.2⟩
section
variable {P : Program} {w : World} {K : PySem.W.Frag} {mg : Str → Option Value} {base : Heap}
def spOdd (K : PySem.W.Frag) : Sp := fun vs H Q _ => ∃ (d g b : Addr) (m : Int), vs = [.ref d] ∧ DeckAt H d g m ∧ Has H b ∧ m < 900000000 ∧ ∀ (v : V) (x : PyData) (H' : Hp), OddD x → Dr K (cutH d g b H') v x → DeckAt H' d g (m + 1) → But d g H H' → Q v H'
theorem scLO : FnScope ["_law_deck_here", "_law_some"] ["_law_deck_here"] (defScope sLOdd) := ⟨rfl, rfl, rfl, by decide +kernel, rfl, by decide +kernel, by decide +kernel⟩
theorem ok_odd {f fPi : Addr} {fd fdPi : FuncData} (F : Fun K "_law_odd" "_law_odd" sLOdd f fd) (GPl : FnOk P w K mg base CX0 2 fPi fdPi ["_law_deck_here", "_law_menu"] (spPickL K)) (gPi : mg "_law_pick" = some (.ref fPi)) (kPi : PySem.W.keepIn K (.ref fPi) = true) (bPi : Binds K fdPi ["_law_deck_here", "_law_menu"] []) :
    FnOk P w K mg base CX0 3 f fd ["_law_deck_here"] (spOdd K) := by
  refine F.ok scLO (fun vs H Q E h => ?_) (fun cdv A outer s H vs Q E hr h => ?_)
  · obtain ⟨d, g, b, m, rfl, _⟩ := h
    rfl
  · obtain ⟨d, g, b, m, rfl, DD, hb, mB, k⟩ := h
    have hr2 : Room 2 _ := hr
    refine ⟨_, (pss_cons (ps_set (i := 1) scLO.nd rfl (.inl rfl) (pe_lstN (pa_cons pe_non (pa_cons pe_bl (pa_cons pe_bl (pa_cons (pe_un un_neg pe_int) (pa_cons (pe_op op_pow pe_int pe_int) (pa_cons pe_str (pa_cons pe_str (pa_cons pe_str (pa_cons pe_str (pa_cons pe_str (pa_cons (pe_tup pa_nil) (pa_cons (pe_lstN pa_nil) (pa_cons pe_dnewK (pa_cons (pe_tup (pa_cons pe_int pa_nil)) (pa_cons (pe_tup (pa_cons pe_str pa_nil)) (pa_cons (pe_tup (pa_cons pe_int (pa_cons pe_str pa_nil))) (pa_cons (pe_lstN (pa_cons pe_str pa_nil)) pa_nil)))))))))))))))))))
        (pss_one (ps_ret (pe_call GPl hr2 rfl gPi kPi bPi .nil pass0 (pa_cons (pv 0) (pa_cons (pv 1) pa_nil)))))), ?_⟩
    refine ⟨1, rfl, 10, 39, rfl, rfl, ⟨by decide, by decide, by decide⟩, by show 0 ≤ sizeLine; decide, fun p1 n1 => ⟨by show 0 ≤ sizeLine; decide, fun p2 n2 m2 => fun p3 n3 => ⟨by show 1 ≤ sizeLine; decide, fun p4 n4 => ⟨by show 1 ≤ sizeLine; decide, fun p5 n5 => ⟨by show 2 ≤ sizeLine; decide, fun p6 n6 => ⟨by show 1 ≤ sizeLine; decide, fun p7 n7 m7 => ⟨by show 17 ≤ sizeLine; decide, fun q nq mq => ?_⟩⟩⟩⟩⟩⟩⟩
    have s1 := same_up (o := .tup []) n1
    have D1 := DD.put (o := .tup []) n1
    have s2 := same_up (o := .lst []) n2
    have D2 := D1.put (o := .lst []) n2
    have s3 := same_up (o := .dK []) n3
    have D3 := D2.put (o := .dK []) n3
    have s4 := same_up (o := .tup [.int 0]) n4
    have D4 := D3.put (o := .tup [.int 0]) n4
    have s5 := same_up (o := .tup [.str "a"]) n5
    have D5 := D4.put (o := .tup [.str "a"]) n5
    have s6 := same_up (o := .tup [.int 0, .str "a"]) n6
    have D6 := D5.put (o := .tup [.int 0, .str "a"]) n6
    have s7 := same_up (o := .lst [.str "a"]) n7
    have D7 := D6.put (o := .lst [.str "a"]) n7
    obtain ⟨L, hL⟩ : ∃ L : List V, L = [.non, .bl true, .bl false, .int (-1), .int (10 ^ 39), .str "", .str "A", .str "ab", .str " ", .str "a\n", .ref p1, .ref p2, .ref p3, .ref p4, .ref p5, .ref p6, .ref p7] := ⟨_, rfl⟩
    have s8 := same_up (o := .lst L) nq
    have D8 := D7.put (o := .lst L) nq
    have hb1 := hb.same s1
    have hb2 := hb1.same s2
    have hb3 := hb2.same s3
    have hb4 := hb3.same s4
    have hb5 := hb4.same s5
    have hb6 := hb5.same s6
    have c1 := cut_new (o := .tup []) DD hb n1
    have c2 := cut_new (o := .lst []) D1 hb1 n2
    have c3 := cut_new (o := .dK []) D2 hb2 n3
    have c4 := cut_new (o := .tup [.int 0]) D3 hb3 n4
    have c5 := cut_new (o := .tup [.str "a"]) D4 hb4 n5
    have c6 := cut_new (o := .tup [.int 0, .str "a"]) D5 hb5 n6
    have c7 := cut_new (o := .lst [.str "a"]) D6 hb6 n7
    have t78 := cut_ex (d := d) (g := g) (b := b) s8
    have t68 := (cut_ex (d := d) (g := g) (b := b) s7).trans t78
    have t58 := (cut_ex (d := d) (g := g) (b := b) s6).trans t68
    have t48 := (cut_ex (d := d) (g := g) (b := b) s5).trans t58
    have t38 := (cut_ex (d := d) (g := g) (b := b) s4).trans t48
    have t28 := (cut_ex (d := d) (g := g) (b := b) s3).trans t38
    have t18 := (cut_ex (d := d) (g := g) (b := b) s2).trans t28
    have all : DrAll K (cutH d g b (upd (upd (upd (upd (upd (upd (upd (upd H p1 (.tup [])) p2 (.lst [])) p3 (.dK [])) p4 (.tup [.int 0])) p5 (.tup [.str "a"])) p6 (.tup [.int 0, .str "a"])) p7 (.lst [.str "a"])) q (.lst L))) ([.non, .bl true, .bl false, .int (-1), .int (10 ^ 39), .str "", .str "A", .str "ab", .str " ", .str "a\n", .ref p1, .ref p2, .ref p3, .ref p4, .ref p5, .ref p6, .ref p7] : List V) oddL := by
      refine .cons .non (.cons (.bl _) (.cons (.bl _) (.cons (.int _) (.cons (.int _) (.cons (.str _) (.cons (.str _) (.cons (.str _) (.cons (.str _) (.cons (.str _) (.cons ?_ (.cons ?_ (.cons ?_ (.cons ?_ (.cons ?_ (.cons ?_ (.cons ?_ .nil))))))))))))))))
      · exact .tup (SqT.of (t18 _ _ c1)) .nil
      · exact .lst m2 (SqL.of (t28 _ _ c2)) .nil
      · exact .dct (kvs := []) (ds := []) (t38 _ _ c3) .nil
      · exact .tup (SqT.of (t48 _ _ c4)) (.cons (.int _) .nil)
      · exact .tup (SqT.of (t58 _ _ c5)) (.cons (.str _) .nil)
      · exact .tup (SqT.of (t68 _ _ c6)) (.cons (.int _) (.cons (.str _) .nil))
      · exact .lst m7 (SqL.of (t78 _ _ c7)) (.cons (.str _) .nil)
    have len : L.length = 17 := by rw [hL] <;> rfl
    subst hL
    have S8 := ((((((s1.trans s2).trans s3).trans s4).trans s5).trans s6).trans s7).trans s8
    dsimp only [tNil, List.append_nil]
    show tRet (tCall (spPickL K) [] E0 (tCons (tVar 0) (tCons (tVar 1) tNil))) _ _ _
    refine ⟨_, rfl, _, rfl, d, g, q, m, _, rfl, D8, by omega, SqL.of upd_same, (by show 0 < 17; decide), (by show 17 < 1000000; decide), (D7.new nq).2, fun i v H' hv D' B' => ?_⟩
    obtain ⟨x, hx, rx⟩ := all.get hv
    exact k v x H' (odd_of (List.mem_of_getElem? hx)) (rx.keep (cut_but B')) D' ((but_same S8).trans B')
end
end Vk
set_option Elab.async false
set_option linter.all false
set_option maxRecDepth 100000
set_option maxHeartbeats 4000000
namespace Vk
open PySem PySem.Spec PyProof.Rows L2 Vt PySem.Vx Vs1 ClX
abbrev sLBent : Stmt := top8 66
theorem dig_lt {c : Char} {n : Nat} (h : c ∈ Nat.toDigits 10 n) : c.toNat < 128 := by
  have := Nat.isDigit_of_mem_toDigits (by decide) (by decide) h
  simp only [Char.isDigit, Bool.and_eq_true, decide_eq_true_eq] at this
  have h2 := this.2
  have : c.val.toNat ≤ 57 := h2
  show c.val.toNat < 128
  omega
theorem low_toStr (i : Int) : Low (Str.ofString (toString i)) := by
  intro c hc
  rw [Str.ofString_eq_toList] at hc
  have hc : c ∈ (toString i).toList.map Char.toNat := hc
  obtain ⟨ch, hm, rfl⟩ := List.mem_map.mp hc
  have rp : ∀ n, (Nat.repr n).toList = Nat.toDigits 10 n := fun n => by simp [Nat.repr]
  cases i with
  | ofNat n =>
    have e : toString (Int.ofNat n) = Nat.repr n := rfl
    rw [e, rp] at hm
    exact dig_lt hm
  | negSucc n =>
    have e : toString (Int.negSucc n) = "-" ++ Nat.repr (n + 1) := rfl
    rw [e, String.toList_append, List.mem_append, rp] at hm
    rcases hm with hm | hm
    · have e2 : ("-" : String).toList = ['-'] := rfl
      rw [e2, List.mem_singleton] at hm
      rw [hm]
      decide
    · exact dig_lt hm
theorem plB_low {B : Nat} {z : Str} (h : Low z) : plB B (.str z) = true := List.all_eq_true.mpr fun c hc => decide_eq_true (h c hc)
theorem low_plB {B : Nat} {z : Str} (h : plB B (.str z) = true) : Low z := fun c hc => of_decide_eq_true (List.all_eq_true.mp h c hc)
/-- a value with something otherwise: how great it may be -/
structure Bn (B : Nat) (x y : PyData) : Prop where
  pl : plB (B + 1000) y = true
  wt : wt y ≤ 2 * wt x + 150
  dp : y.depth ≤ x.depth + 1
  top : topN y ≤ topN x + 2
theorem plBs_app {B : Nat} : ∀ {a b : List PyData}, plBs B (a ++ b) = (plBs B a && plBs B b)
  | [], b => rfl
  | x :: a, b => by rw [List.cons_append, plBs, plBs_app, plBs, Bool.and_assoc]
theorem wtAll_mem_split {ds : List PyData} {i : Nat} {e : PyData} (h : ds[i]? = some e) : wtAll ds = wtAll (ds.take i) + wt e + wtAll (ds.drop (i + 1)) := by
  have : ds = ds.take i ++ e :: ds.drop (i + 1) := by
    rw [← List.take_append_drop i ds]
    congr 1
    · rw [List.take_append_drop]
    · rw [List.take_append_drop, List.drop_eq_getElem_cons (List.getElem?_eq_some_iff.mp h).1]
      rw [(List.getElem?_eq_some_iff.mp h).2]
  conv => lhs; rw [this]
  rw [wtAll_app, wtAll]
  omega
theorem bn_of {B : Nat} {ds es : List PyData} (hp : plBs B ds = true) (hm : ∀ d ∈ es, d ∈ ds) (hw : wtAll es ≤ 2 * wtAll ds) (ht : es.length ≤ ds.length + 2) : Bn B (.tuple ds) (.tuple es) := by
  have dd : PyData.depthAll es ≤ PyData.depthAll ds := depth_all.mpr fun d hd => depth_all.mp (Nat.le_refl _) d (hm d hd)
  refine ⟨?_, ?_, ?_, ht⟩
  · show plBs (B + 1000) es = true
    exact plBs_iff.mpr fun d hd => plB_mono (Nat.le_add_right _ _) (plBs_iff.mp hp d (hm d hd))
  · show wtAll es + 1 ≤ 2 * (wtAll ds + 1) + 150
    omega
  · rw [PyData.depth, PyData.depth]
    omega
theorem wt_take (ds : List PyData) (i : Nat) : wtAll ds = wtAll (ds.take i) + wtAll (ds.drop i) := by
  conv => lhs; rw [← List.take_append_drop i ds]
  rw [wtAll_app]
theorem bn_cut {B : Nat} {ds : List PyData} (i : Nat) (hp : plBs B ds = true) : Bn B (.tuple ds) (.tuple (ds.take i ++ ds.drop (i + 1))) := by
  refine bn_of hp (fun d hd => ?_) ?_ ?_
  · rcases List.mem_append.mp hd with h | h
    · exact List.mem_of_mem_take h
    · exact List.mem_of_mem_drop h
  · rw [wtAll_app]
    have a := wt_take ds i
    have b := wt_take ds (i + 1)
    omega
  · rw [List.length_append, List.length_take, List.length_drop]
    omega
theorem bn_twice {B : Nat} {ds : List PyData} (i : Nat) (hp : plBs B ds = true) : Bn B (.tuple ds) (.tuple (ds.take (i + 1) ++ ds.drop i)) := by
  refine bn_of hp (fun d hd => ?_) ?_ ?_
  · rcases List.mem_append.mp hd with h | h
    · exact List.mem_of_mem_take h
    · exact List.mem_of_mem_drop h
  · rw [wtAll_app]
    have a := wt_take ds i
    have b := wt_take ds (i + 1)
    omega
  · rw [List.length_append, List.length_take, List.length_drop]
    omega
theorem wt_rev : ∀ (ds : List PyData), wtAll ds.reverse = wtAll ds
  | [] => rfl
  | x :: ds => by
    rw [List.reverse_cons, wtAll_app, wt_rev ds, wtAll, wtAll, wtAll]
    omega
theorem bn_rev {B : Nat} {ds : List PyData} (hp : plBs B ds = true) : Bn B (.tuple ds) (.tuple ds.reverse) :=
  bn_of hp (fun d hd => List.mem_reverse.mp hd) (by rw [wt_rev]; omega) (by rw [List.length_reverse]; omega)
theorem bn_list {B : Nat} {ds : List PyData} (hp : plBs B ds = true) : Bn B (.tuple ds) (.list ds) := by
  refine ⟨plBs_mono (Nat.le_add_right _ _) hp, ?_, ?_, Nat.zero_le _⟩
  · show wtAll ds + 1 ≤ 2 * (wtAll ds + 1) + 150
    omega
  · rw [PyData.depth, PyData.depth]
    omega
theorem bn_sub {B : Nat} {ds : List PyData} {i : Nat} {e e' : PyData} (hp : plBs B ds = true) (h : ds[i]? = some e) (b : Bn B e e') : Bn B (.tuple ds) (.tuple (ds.take i ++ [e'] ++ ds.drop (i + 1))) := by
  refine ⟨?_, ?_, ?_, ?_⟩
  · show plBs (B + 1000) _ = true
    refine plBs_iff.mpr fun d hd => ?_
    rcases List.mem_append.mp hd with hd | hd
    · rcases List.mem_append.mp hd with hd | hd
      · exact plB_mono (Nat.le_add_right _ _) (plBs_iff.mp hp d (List.mem_of_mem_take hd))
      · rw [List.mem_singleton.mp hd]
        exact b.pl
    · exact plB_mono (Nat.le_add_right _ _) (plBs_iff.mp hp d (List.mem_of_mem_drop hd))
  · show wtAll _ + 1 ≤ 2 * (wtAll ds + 1) + 150
    have := wtAll_mem_split h
    have w := b.wt
    rw [wtAll_app, wtAll_app, wtAll, wtAll]
    omega
  · have hd : PyData.depthAll (ds.take i ++ [e'] ++ ds.drop (i + 1)) ≤ PyData.depthAll ds + 1 := by
      refine depth_all.mpr fun d hd => ?_
      have all := depth_all.mp (Nat.le_refl (PyData.depthAll ds))
      rcases List.mem_append.mp hd with hd | hd
      · rcases List.mem_append.mp hd with hd | hd
        · exact Nat.le_succ_of_le (all d (List.mem_of_mem_take hd))
        · rw [List.mem_singleton.mp hd]
          have := all e (List.mem_of_getElem? h)
          have := b.dp
          omega
      · exact Nat.le_succ_of_le (all d (List.mem_of_mem_drop hd))
    rw [PyData.depth, PyData.depth]
    omega
  · show (ds.take i ++ [e'] ++ ds.drop (i + 1)).length ≤ ds.length + 2
    rw [List.length_append, List.length_append, List.length_take, List.length_drop]
    show _ + 1 + _ ≤ _
    omega
theorem bn_odd {B : Nat} {x y : PyData} (hB : 10 ^ 40 ≤ B) (o : OddD y) : Bn B x y := by
  refine ⟨plB_mono (by omega) o.pl, ?_, ?_, ?_⟩
  · have := o.wt
    omega
  · have := o.dp
    omega
  · have := o.top
    omega
theorem bn_int {B : Nat} {i j : Int} (hp : plB B (.int i) = true) (h1 : -1 ≤ j) (h2 : j ≤ 999) : Bn B (.int i) (.int (i + j)) := by
  have hp := of_decide_eq_true hp
  refine ⟨decide_eq_true (by omega), ?_, ?_, Nat.zero_le _⟩
  · show 1 ≤ 2 * 1 + 150
    decide
  · show (0 : Nat) ≤ _
    exact Nat.zero_le _
theorem bn_bool {B : Nat} {x : PyData} {b : Bool} : Bn B x (.bool b) := by
  refine ⟨rfl, ?_, ?_, Nat.zero_le _⟩
  · show 1 ≤ _
    omega
  · exact Nat.zero_le _
theorem bn_num {B : Nat} {i : Int} (hB : B ≤ 10 ^ 41) (hp : plB B (.int i) = true) : Bn B (.int i) (.str (Str.ofString (toString i))) := by
  have hp := of_decide_eq_true hp
  refine ⟨plB_low (low_toStr i), ?_, ?_, Nat.zero_le _⟩
  · have := int_len (i := i) (by omega)
    have h : (Str.ofString (toString i)).length ≤ 140 := this
    show (Str.ofString (toString i)).length + 1 ≤ 2 * 1 + 150
    omega
  · exact Nat.zero_le _
theorem bn_str {B : Nat} {x : PyData} {z : Str} (h : Low z) (hw : z.length + 1 ≤ 2 * wt x + 150) : Bn B x (.str z) := ⟨plB_low h, hw, Nat.zero_le _, Nat.zero_le _⟩
theorem up1_lt {c : Nat} (h : c < 128) : up1 c < 128 := by
  unfold up1
  split <;> omega
theorem bn_upper {B : Nat} {z : Str} (h : Low z) : Bn B (.str z) (.str (Txt.upper z)) := by
  rw [PyProof.Rows.upper_ascii h]
  refine bn_str (fun c hc => ?_) ?_
  · rw [Array.toList_map] at hc
    obtain ⟨a, ha, rfl⟩ := List.mem_map.mp hc
    exact up1_lt (h a ha)
  · show (z.cps.map up1).size + 1 ≤ 2 * (z.length + 1) + 150
    rw [Array.size_map]
    have : z.cps.size = z.length := rfl
    omega
theorem bn_dbl {B : Nat} {z : Str} (h : Low z) : Bn B (.str z) (.str (z ++ z)) := by
  refine bn_str (fun c hc => ?_) ?_
  · have hc : c ∈ (z.cps ++ z.cps).toList := hc
    rw [Array.toList_append] at hc
    exact (List.mem_append.mp hc).elim (h c) (h c)
  · show (z.cps ++ z.cps).size + 1 ≤ 2 * (z.cps.size + 1) + 150
    rw [Array.size_append]
    omega
theorem bn_tup {B : Nat} {z : Str} (h : Low z) : Bn B (.str z) (.tuple [.str z]) := by
  refine ⟨?_, ?_, ?_, ?_⟩
  · show (plB _ (.str z) && true) = true
    rw [plB_low h] <;> rfl
  · show (z.length + 1 + 0) + 1 ≤ 2 * (z.length + 1) + 150
    omega
  · show max 0 0 + 1 ≤ 0 + 1
    decide
  · show 1 ≤ 0 + 2
    decide
/-! ## slices and sums of tuples -/
section
variable {K : PySem.W.Frag} {d g b a a2 : Addr} {H : Hp} {m : Int} {ds es : List PyData} {k : Nat} {Q : VK}
theorem sl_take (D : DeckAt H d g m) (hb : Has H b) (h : Dr K (cutH d g b H) (.ref a) (.tuple ds)) (q : ∀ r H', Same H H' → Dr K (cutH d g b H') (.ref r) (.tuple (ds.take k)) → Q (.ref r) H') : rSlA K (.ref a) none (some (k : Int)) H Q := by
  obtain ⟨_, xs, e, hs, ha⟩ := dr_tup h
  cases e
  have lx := ha.length
  refine ⟨a, xs, rfl, same_seqT cut_same hs, fun ⟨_, z⟩ => ?_, fun _ p np => ?_⟩
  · rw [HT.sIx_nat] at z
    refine q a H (Same.refl _) ?_
    rw [List.take_of_length_le (by omega)]
    exact h
  · rw [cut_to]
    have S := same_up (o := .tup (xs.take k)) np
    exact q p _ S (.tup (SqT.of (cut_new D hb np)) ((ha.take k).keep (cut_ex S)))
theorem sl_drop (D : DeckAt H d g m) (hb : Has H b) (h : Dr K (cutH d g b H) (.ref a) (.tuple ds)) (q : ∀ r H', Same H H' → Dr K (cutH d g b H') (.ref r) (.tuple (ds.drop k)) → Q (.ref r) H') : rSlA K (.ref a) (some (k : Int)) none H Q := by
  obtain ⟨_, xs, e, hs, ha⟩ := dr_tup h
  cases e
  have lx := ha.length
  refine ⟨a, xs, rfl, same_seqT cut_same hs, fun ⟨z, _⟩ => ?_, fun _ p np => ?_⟩
  · rw [HT.sIx_nat] at z
    refine q a H (Same.refl _) ?_
    rcases Nat.eq_zero_or_pos k with rfl | kp
    · rw [List.drop_zero]
      exact h
    · have : ds = [] := List.length_eq_zero_iff.mp (by omega)
      rw [this, List.drop_nil]
      rw [this] at h
      exact h
  · rw [cut_from]
    have S := same_up (o := .tup (xs.drop k)) np
    exact q p _ S (.tup (SqT.of (cut_new D hb np)) ((ha.drop k).keep (cut_ex S)))
theorem cat_two (D : DeckAt H d g m) (hb : Has H b) (h : Dr K (cutH d g b H) (.ref a) (.tuple ds)) (h2 : Dr K (cutH d g b H) (.ref a2) (.tuple es)) (few : ds.length + es.length ≤ 1000000) (q : ∀ r H', Same H H' → Dr K (cutH d g b H') (.ref r) (.tuple (ds ++ es)) → Q (.ref r) H') : rCatA K (.ref a) (.ref a2) H Q := by
  obtain ⟨_, xs, e, hs, ha⟩ := dr_tup h
  cases e
  obtain ⟨_, ys, e, hs2, ha2⟩ := dr_tup h2
  cases e
  have lx := ha.length
  have ly := ha2.length
  refine ⟨a, a2, xs, ys, rfl, rfl, same_seqT cut_same hs, same_seqT cut_same hs2, by rw [sizeLine_eq]; omega, fun z => ?_, fun _ z => ?_, fun _ _ p np => ?_⟩
  · have : ds = [] := List.length_eq_zero_iff.mp (by rw [← lx, z] <;> rfl)
    refine q a2 H (Same.refl _) ?_
    rw [this]
    exact h2
  · have : es = [] := List.length_eq_zero_iff.mp (by rw [← ly, z] <;> rfl)
    refine q a H (Same.refl _) ?_
    rw [this, List.append_nil]
    exact h
  · have S := same_up (o := .tup (xs ++ ys)) np
    exact q p _ S (.tup (SqT.of (cut_new D hb np)) ((ha.app ha2).keep (cut_ex S)))
end
end Vk
set_option Elab.async false
set_option linter.all false
set_option maxRecDepth 100000
set_option maxHeartbeats 4000000
namespace Vk
open PySem PySem.Spec PyProof.Rows L2 Vt PySem.Vx Vs1 ClX
section
variable {P : Program} {w : World} {K : PySem.W.Frag} {mg : Str → Option Value} {base : Heap}
def spBent (K : PySem.W.Frag) : Nat → Sp
  | 0 => fun _ _ _ _ => False
  | k + 1 => fun vs H Q _ => ∃ (d g b : Addr) (m : Int) (v : V) (x : PyData) (B : Nat), vs = [.ref d, v] ∧ DeckAt H d g m ∧ Has H b ∧ b ≠ d ∧ b ≠ g ∧ m + 4 * ((k : Int) + 1) < 900000000 ∧ Dr K (cutH d g b H) v x ∧ 10 ^ 40 ≤ B ∧ B + 1000 ≤ 10 ^ 41 ∧ plB B x = true ∧ wt x ≤ 100000 ∧ x.depth ≤ k ∧
    ∀ (v' : V) (y : PyData) (H' : Hp), Bn B x y → Dr K (cutH d g b H') v' y → DeckAt H' d g (m + 4 * ((k : Int) + 1)) → But d g H H' → Q v' H'
theorem scLB : FnScope ["_law_deck_here", "_law_it", "_law_at", "_law_way"] ["_law_deck_here", "_law_it"] (defScope sLBent) := ⟨rfl, rfl, rfl, by decide +kernel, rfl, by decide +kernel, by decide +kernel⟩
theorem bent_step {f fDr fPi fOd : Addr} {fd fdDr fdPi fdOd : FuncData} (F : Fun K "_law_bent" "_law_bent" sLBent f fd) (T : Txt8 K mg)
    (GDr : FnOk P w K mg base CX0 1 fDr fdDr ["_law_deck_here", "_law_below"] spDraw) (gDr : mg "_law_draw" = some (.ref fDr)) (kDr : PySem.W.keepIn K (.ref fDr) = true) (bDr : Binds K fdDr ["_law_deck_here", "_law_below"] [])
    (GPl : FnOk P w K mg base CX0 2 fPi fdPi ["_law_deck_here", "_law_menu"] (spPickL K)) (gPi : mg "_law_pick" = some (.ref fPi)) (kPi : PySem.W.keepIn K (.ref fPi) = true) (bPi : Binds K fdPi ["_law_deck_here", "_law_menu"] [])
    (GOd : FnOk P w K mg base CX0 3 fOd fdOd ["_law_deck_here"] (spOdd K)) (gOd : mg "_law_odd" = some (.ref fOd)) (kOd : PySem.W.keepIn K (.ref fOd) = true) (bOd : Binds K fdOd ["_law_deck_here"] [])
    (gB : mg "_law_bent" = some (.ref f)) (kB : PySem.W.keepIn K (.ref f) = true) (bB : Binds K fd ["_law_deck_here", "_law_it"] []) (j : Nat) (GB : FnOk P w K mg base CX0 (j + 3) f fd ["_law_deck_here", "_law_it"] (spBent K j)) :
    FnOk P w K mg base CX0 (j + 4) f fd ["_law_deck_here", "_law_it"] (spBent K (j + 1)) := by
  refine F.ok scLB (fun vs H Q E h => ?_) (fun cdv A outer s H vs Q E hr h => ?_)
  · obtain ⟨d, g, b, m, v, x, B, rfl, _⟩ := h
    rfl
  · obtain ⟨d, g, b, m, v, x, B, rfl, DD, hb, bd, bg, mB, hx, b1, b2, hp, hw, hdp, k⟩ := h
    have hr1 : Room 1 _ := hr.mono (by omega)
    have hr2 : Room 2 _ := hr.mono (by omega)
    have hr3 : Room 3 _ := hr.mono (by omega)
    refine ⟨_, (pss_cons (ps_if (PW.pt (pw_and (pt_val (pe_callB call_isi (by rfl) T.isi (by decide +kernel) (pa_cons (pv 1) (pa_cons (pe_bltn (v := .ty "tuple") (by rfl) T.tup (by decide +kernel) rfl) pa_nil)))) (pw_and (pt_cmpR (op_neT hr.units) (pv 1) (pe_tup pa_nil) (nomark _)) (pw_and1 (pt_cmpR op_gt (pe_call GDr hr1 rfl gDr kDr bDr .nil pass0 (pa_cons (pv 0) (pa_cons pe_int pa_nil))) pe_int (nomark _)))))) (pss_cons (ps_par (i := 2) (j := 3) (by rfl) scLB.nd rfl rfl (by decide) rfl rfl (pa_cons (pe_call GDr hr1 rfl gDr kDr bDr .nil pass0 (pa_cons (pv 0) (pa_cons (pe_callB call_len (by rfl) T.len PySem.boot_len (pa_cons (pv 1) pa_nil)) pa_nil))) (pa_cons (pe_call GDr hr1 rfl gDr kDr bDr .nil pass0 (pa_cons (pv 0) (pa_cons pe_int pa_nil))) pa_nil)) (by rfl))
        (pss_cons (ps_if (pt_cmpR op_eq (pv 3) pe_int (nomark _)) (pss_one (ps_ret (pe_op op_catA (pe_slice sl_tupA (pv 1) po_none (po_some (pv 2))) (pe_slice sl_tupA (pv 1) (po_some (pe_op op_add (pv 2) pe_int)) po_none)))) pss_nil)
        (pss_cons (ps_if (pt_cmpR op_eq (pv 3) pe_int (nomark _)) (pss_one (ps_ret (pe_op op_catA (pe_slice sl_tupA (pv 1) po_none (po_some (pe_op op_add (pv 2) pe_int))) (pe_slice sl_tupA (pv 1) (po_some (pv 2)) po_none)))) pss_nil)
        (pss_cons (ps_if (pt_cmpR op_eq (pv 3) pe_int (nomark _)) (pss_one (ps_ret (pe_revT (pv 1)))) pss_nil)
        (pss_cons (ps_if (pt_cmpR op_eq (pv 3) pe_int (nomark _)) (pss_one (ps_ret (pe_callTy call_listN (by rfl) T.lst (by decide +kernel) (pa_cons (pv 1) pa_nil)))) pss_nil)
        (pss_one (ps_ret (pe_op op_catA (pe_op op_catA (pe_slice sl_tupA (pv 1) po_none (po_some (pv 2))) (pe_tup (pa_cons (pe_call GB hr rfl gB kB bB .nil pass0 (pa_cons (pv 0) (pa_cons (pe_ix ix_tup (pv 1) (pv 2) (fun _ _ => rfl)) pa_nil))) pa_nil))) (pe_slice sl_tupA (pv 1) (po_some (pe_op op_add (pv 2) pe_int)) po_none))))))))) pss_nil)
        (pss_cons (ps_if (PW.pt (pw_and (pt_val (pe_callB call_isi (by rfl) T.isi (by decide +kernel) (pa_cons (pv 1) (pa_cons (pe_bltn (v := .ty "int") (by rfl) T.int (by decide +kernel) rfl) pa_nil)))) (pw_and (pt_not (pt_val (pe_callB call_isi (by rfl) T.isi (by decide +kernel) (pa_cons (pv 1) (pa_cons (pe_bltn (v := .ty "bool") (by rfl) T.bool (by decide +kernel) rfl) pa_nil))))) (pw_and1 (pt_cmpR op_gt (pe_call GDr hr1 rfl gDr kDr bDr .nil pass0 (pa_cons (pv 0) (pa_cons pe_int pa_nil))) pe_int (nomark _)))))) (pss_one (ps_ret (pe_call GPl hr2 rfl gPi kPi bPi .nil pass0 (pa_cons (pv 0) (pa_cons (pe_lst (pa_cons (pe_op op_add (pv 1) pe_int) (pa_cons (pe_op op_sub (pv 1) pe_int) (pa_cons (pe_cmpR op_eq (pv 1) pe_int (nomark _)) (pa_cons (pe_cmpR op_eq (pv 1) pe_int (nomark _)) (pa_cons (pe_callTy call_str_int (by rfl) T.str (by decide +kernel) (pa_cons (pv 1) pa_nil)) (pa_cons (pe_op op_add (pv 1) pe_int) pa_nil))))))) pa_nil))))) pss_nil)
        (pss_cons (ps_if (PW.pt (pw_and (pt_val (pe_callB call_isi (by rfl) T.isi (by decide +kernel) (pa_cons (pv 1) (pa_cons (pe_bltn (v := .ty "str") (by rfl) T.str (by decide +kernel) rfl) pa_nil)))) (pw_and1 (pt_cmpR op_gt (pe_call GDr hr1 rfl gDr kDr bDr .nil pass0 (pa_cons (pv 0) (pa_cons pe_int pa_nil))) pe_int (nomark _))))) (pss_one (ps_ret (pe_call GPl hr2 rfl gPi kPi bPi .nil pass0 (pa_cons (pv 0) (pa_cons (pe_lst (pa_cons pe_str (pa_cons pe_str (pa_cons pe_str (pa_cons (pe_op op_add_str (pv 1) (pv 1)) (pa_cons (pe_bm0 PySem.F.plainAttrs_str PySem.F.slot_str_upper PySem.F.type_str_upper mt_upper (pv 1)) (pa_cons pe_str (pa_cons (pe_tup (pa_cons (pv 1) pa_nil)) (pa_cons pe_str (pa_cons pe_str pa_nil)))))))))) pa_nil))))) pss_nil)
        (pss_one (ps_ret (pe_call GOd hr3 rfl gOd kOd bOd .nil pass0 (pa_cons (pv 0) pa_nil))))))), ?_⟩
    have fin : ∀ {H1 : Hp} {m1 : Int}, But d g H H1 → DeckAt H1 d g m1 → m1 ≤ m + 1 → ∃ (d' g' b' : Addr) (m' : Int), [V.ref d] = [.ref d'] ∧ DeckAt H1 d' g' m' ∧ Has H1 b' ∧ m' < 900000000 ∧ ∀ (v' : V) (y : PyData) (H' : Hp), OddD y → Dr K (cutH d' g' b' H') v' y → DeckAt H' d' g' (m' + 1) → But d' g' H1 H' → Q v' H' :=
      fun {H1 m1} B1 D1 le => ⟨d, g, b, m1, rfl, D1, hb.but B1 bd bg, by omega, fun v' y H' o r D' B' => k v' y H' (bn_odd b1 o) r (D'.up (by omega)) (B1.trans B')⟩
    have hx0 := hx.keep cut_same
    refine ⟨_, rfl, _, _, _, _, kitT x, rfl, .ty "tuple", tyX_dr hx0, kit_tup x, _, rfl, ?_⟩
    cases x with
    | none =>
      refine iteF ?_
      refine iteF ?_
      refine ⟨_, rfl, _, _, _, _, kitI .none, rfl, .ty "int", tyX_dr hx0, kit_int .none, _, rfl, ?_⟩
      refine iteF ?_
      refine iteF ?_
      refine ⟨_, rfl, _, _, _, _, kitS .none, rfl, .ty "str", tyX_dr hx0, kit_str .none, _, rfl, ?_⟩
      refine iteF ?_
      refine iteF ?_
      exact ⟨_, rfl, fin (but_same (Same.refl _)) DD (by omega)⟩
    | list xs =>
      refine iteF ?_
      refine iteF ?_
      refine ⟨_, rfl, _, _, _, _, kitI (.list xs), rfl, .ty "int", tyX_dr hx0, kit_int (.list xs), _, rfl, ?_⟩
      refine iteF ?_
      refine iteF ?_
      refine ⟨_, rfl, _, _, _, _, kitS (.list xs), rfl, .ty "str", tyX_dr hx0, kit_str (.list xs), _, rfl, ?_⟩
      refine iteF ?_
      refine iteF ?_
      exact ⟨_, rfl, fin (but_same (Same.refl _)) DD (by omega)⟩
    | dict xs =>
      refine iteF ?_
      refine iteF ?_
      refine ⟨_, rfl, _, _, _, _, kitI (.dict xs), rfl, .ty "int", tyX_dr hx0, kit_int (.dict xs), _, rfl, ?_⟩
      refine iteF ?_
      refine iteF ?_
      refine ⟨_, rfl, _, _, _, _, kitS (.dict xs), rfl, .ty "str", tyX_dr hx0, kit_str (.dict xs), _, rfl, ?_⟩
      refine iteF ?_
      refine iteF ?_
      exact ⟨_, rfl, fin (but_same (Same.refl _)) DD (by omega)⟩
    | bool bb =>
      refine iteF ?_
      refine iteF ?_
      refine ⟨_, rfl, _, _, _, _, kitI (.bool bb), rfl, .ty "int", tyX_dr hx0, kit_int (.bool bb), _, rfl, ?_⟩
      refine iteT ?_
      refine ⟨_, rfl, _, _, _, _, kitBo (.bool bb), rfl, .ty "bool", tyX_dr hx0, kit_bool (.bool bb), _, rfl, ?_⟩
      refine iteF ?_
      refine iteF ?_
      refine ⟨_, rfl, _, _, _, _, kitS (.bool bb), rfl, .ty "str", tyX_dr hx0, kit_str (.bool bb), _, rfl, ?_⟩
      refine iteF ?_
      refine iteF ?_
      exact ⟨_, rfl, fin (but_same (Same.refl _)) DD (by omega)⟩
    | int i =>
      obtain rfl := dr_int hx0
      refine iteF ?_
      refine iteF ?_
      refine ⟨_, rfl, _, _, _, _, kitI (.int i), rfl, .ty "int", tyX_dr hx0, kit_int (.int i), _, rfl, ?_⟩
      refine iteT ?_
      refine ⟨_, rfl, _, _, _, _, kitBo (.int i), rfl, .ty "bool", tyX_dr hx0, kit_bool (.int i), _, rfl, ?_⟩
      refine iteT ?_
      refine ⟨_, rfl, d, g, _, m, rfl, DD, by omega, by omega, by omega, fun r H1 r0 r1 D1 B1 => ?_⟩
      refine ⟨_, _, rfl, rfl, _, rfl, ?_⟩
      by_cases rp : (0 : Int) < r
      rotate_left
      · rw [decide_eq_false rp]
        refine iteF ?_
        refine ⟨_, rfl, _, _, _, _, kitS (.int i), rfl, .ty "str", .base (.int i), kit_str (.int i), _, rfl, ?_⟩
        refine iteF ?_
        refine iteF ?_
        exact ⟨_, rfl, fin B1 D1 (by omega)⟩
      rw [decide_eq_true rp]
      refine iteT ?_
      have lg : i.natAbs.log2 < 1920 := log_of (by have := of_decide_eq_true hp; omega)
      refine ⟨_, rfl, _, rfl, _, _, rfl, rfl, _, rfl, _, _, rfl, rfl, _, rfl, rfl, _, rfl, rfl, _, rfl, _, rfl, lg, _, rfl, _, _, rfl, rfl, by show 6 ≤ sizeLine; decide, fun q nq => ?_⟩
      have all : ∀ Hc : Hp, DrAll K Hc [V.int (i + 1), V.int (i - 1), V.bl (decide (V.int i = V.int 1)), V.bl (decide (V.int i = V.int 0)), V.str (Str.ofString (toString i)), V.int (i + 999)]
          [.int (i + 1), .int (i + -1), .bool (decide (V.int i = V.int 1)), .bool (decide (V.int i = V.int 0)), .str (Str.ofString (toString i)), .int (i + 999)] := fun Hc => .cons (.int _) (.cons (.int _) (.cons (.bl _) (.cons (.bl _) (.cons (.str _) (.cons (.int _) .nil)))))
      have bn : ∀ y ∈ [PyData.int (i + 1), .int (i + -1), .bool (decide (V.int i = V.int 1)), .bool (decide (V.int i = V.int 0)), .str (Str.ofString (toString i)), .int (i + 999)], Bn B (.int i) y := fun y hy => by
        simp only [List.mem_cons, List.not_mem_nil, or_false] at hy
        rcases hy with rfl | rfl | rfl | rfl | rfl | rfl
        · exact bn_int hp (by omega) (by omega)
        · exact bn_int hp (by omega) (by omega)
        · exact bn_bool
        · exact bn_bool
        · exact bn_num (by omega) hp
        · exact bn_int hp (by omega) (by omega)
      refine ⟨d, g, q, m + 1, _, rfl, D1.put nq, by omega, SqL.of upd_same, (by show 0 < 6; decide), (by show 6 < 1000000; decide), (D1.new nq).2, fun ix v H' hv D' B' => ?_⟩
      obtain ⟨y, hy, ry⟩ := (all (cutH d g b H')).get hv
      exact k v y H' (bn y (List.mem_of_getElem? hy)) ry (D'.up (by omega)) ((B1.put nq).trans B')
    | str z =>
      obtain rfl := dr_str hx0
      have lz := low_plB hp
      refine iteF ?_
      refine iteF ?_
      refine ⟨_, rfl, _, _, _, _, kitI (.str z), rfl, .ty "int", tyX_dr hx0, kit_int (.str z), _, rfl, ?_⟩
      refine iteF ?_
      refine iteF ?_
      refine ⟨_, rfl, _, _, _, _, kitS (.str z), rfl, .ty "str", tyX_dr hx0, kit_str (.str z), _, rfl, ?_⟩
      refine iteT ?_
      refine ⟨_, rfl, d, g, _, m, rfl, DD, by omega, by omega, by omega, fun r H1 r0 r1 D1 B1 => ?_⟩
      refine ⟨_, _, rfl, rfl, _, rfl, ?_⟩
      by_cases rp : (0 : Int) < r
      rotate_left
      · rw [decide_eq_false rp]
        refine iteF ?_
        exact ⟨_, rfl, fin B1 D1 (by omega)⟩
      rw [decide_eq_true rp]
      refine iteT ?_
      have hz : z.length + 1 ≤ 100000 := hw
      refine ⟨_, rfl, _, rfl, _, rfl, _, _, rfl, rfl, by rw [sizeLine_eq]; omega, _, rfl, ?ty, _, rfl, rfl, by omega, _, rfl, by show 1 ≤ sizeLine; decide, fun pt npt => ⟨by show 9 ≤ sizeLine; decide, fun q nq => ?_⟩⟩
      case ty => rfl
      have sT := same_up (o := .tup [.str z]) npt
      have D2 := D1.put (o := .tup [.str z]) npt
      have c1 := cut_new (o := .tup [.str z]) D1 (hb.but B1 bd bg) npt
      have all : ∀ Hc : Hp, Hc pt = some (.tup [.str z]) → DrAll K Hc [V.str "a", V.str "b", V.str "c", V.str (z ++ z), V.str (Txt.upper z), V.str "", V.ref pt, V.str "_", V.str "{"]
          [.str "a", .str "b", .str "c", .str (z ++ z), .str (Txt.upper z), .str "", .tuple [.str z], .str "_", .str "{"] := fun Hc hc => .cons (.str _) (.cons (.str _) (.cons (.str _) (.cons (.str _) (.cons (.str _) (.cons (.str _) (.cons (.tup (SqT.of hc) (.cons (.str _) .nil)) (.cons (.str _) (.cons (.str _) .nil))))))))
      have lit : ∀ u : Str, (u.cps.toList.all fun c => decide (c < 128)) = true → u.length ≤ 1 → Bn B (.str z) (.str u) := fun u h l => bn_str (fun c hc => of_decide_eq_true (List.all_eq_true.mp h c hc)) (by omega)
      have bn : ∀ y ∈ [PyData.str "a", .str "b", .str "c", .str (z ++ z), .str (Txt.upper z), .str "", .tuple [.str z], .str "_", .str "{"], Bn B (.str z) y := fun y hy => by
        simp only [List.mem_cons, List.not_mem_nil, or_false] at hy
        rcases hy with rfl | rfl | rfl | rfl | rfl | rfl | rfl | rfl | rfl
        · exact lit _ (by decide) (by decide)
        · exact lit _ (by decide) (by decide)
        · exact lit _ (by decide) (by decide)
        · exact bn_dbl lz
        · exact bn_upper lz
        · exact lit _ (by decide) (by decide)
        · exact bn_tup lz
        · exact lit _ (by decide) (by decide)
        · exact lit _ (by decide) (by decide)
      refine ⟨d, g, q, m + 1, _, rfl, D2.put nq, by omega, SqL.of upd_same, (by show 0 < 9; decide), (by show 9 < 1000000; decide), (D2.new nq).2, fun ix v H' hv D' B' => ?_⟩
      have c2 : cutH d g b H' pt = some (.tup [.str z]) := cut_but B' _ _ (cut_ex (same_up nq) _ _ c1)
      obtain ⟨y, hy, ry⟩ := (all (cutH d g b H') c2).get hv
      exact k v y H' (bn y (List.mem_of_getElem? hy)) ry (D'.up (by omega)) (((B1.put npt).put nq).trans B')
    | tuple ds =>
      obtain ⟨a, xs, rfl, hs, ha⟩ := dr_tup hx
      have lx := ha.length
      have hp' : plBs B ds = true := hp
      refine iteT ?_
      refine ⟨_, rfl, by show 0 ≤ sizeLine; decide, fun p0 np0 => ?_⟩
      have sP := same_up (o := .tup []) np0
      have D0 := DD.put (o := .tup []) np0
      have hx1 := hx.keep (cut_ex (d := d) (g := g) (b := b) sP)
      have hs1 : SqT K (upd H p0 (.tup [])) a xs := same_seqT sP (same_seqT cut_same hs)
      refine ⟨a, p0, xs, rfl, rfl, hs1, SqT.of upd_same, _, rfl, ?_⟩
      cases ds with
      | nil =>
        cases ha
        refine iteF ?_
        refine iteF ?_
        refine ⟨_, rfl, _, _, _, _, kitI (.tuple []), rfl, .ty "int", tyX_dr (hx0.keep sP), kit_int (.tuple []), _, rfl, ?_⟩
        refine iteF ?_
        refine iteF ?_
        refine ⟨_, rfl, _, _, _, _, kitS (.tuple []), rfl, .ty "str", tyX_dr (hx0.keep sP), kit_str (.tuple []), _, rfl, ?_⟩
        refine iteF ?_
        refine iteF ?_
        exact ⟨_, rfl, fin (but_same sP) D0 (by omega)⟩
      | cons e0 ds0 =>
        obtain ⟨x0, xs0, rfl⟩ : ∃ x0 xs0, xs = x0 :: xs0 := by
          cases xs with
          | nil => cases lx
          | cons a b => exact ⟨a, b, rfl⟩
        refine iteT ?_
        refine ⟨_, rfl, d, g, _, m, rfl, D0, by omega, by omega, by omega, fun r H1 r0 r1 D1 B1 => ?_⟩
        refine ⟨_, _, rfl, rfl, _, rfl, ?_⟩
        have hxc := hx1.keep (cut_but B1)
        have BB1 := (but_same sP).trans B1
        by_cases rp : (0 : Int) < r
        rotate_left
        · rw [decide_eq_false rp]
          refine iteF ?_
          have hxh := hxc.keep cut_same
          refine ⟨_, rfl, _, _, _, _, kitI (.tuple (e0 :: ds0)), rfl, .ty "int", tyX_dr hxh, kit_int (.tuple (e0 :: ds0)), _, rfl, ?_⟩
          refine iteF ?_
          refine iteF ?_
          refine ⟨_, rfl, _, _, _, _, kitS (.tuple (e0 :: ds0)), rfl, .ty "str", tyX_dr hxh, kit_str (.tuple (e0 :: ds0)), _, rfl, ?_⟩
          refine iteF ?_
          refine iteF ?_
          exact ⟨_, rfl, fin BB1 D1 (by omega)⟩
        rw [decide_eq_true rp]
        refine iteT ?_
        obtain ⟨ds, hds⟩ : ∃ ds, ds = e0 :: ds0 := ⟨_, rfl⟩
        obtain ⟨xs, hxs⟩ : ∃ xs, xs = x0 :: xs0 := ⟨_, rfl⟩
        rw [← hds] at hxc hp' lx hw hdp k
        rw [← hxs] at lx
        have ln : ds.length ≤ 100000 := by
          have := wtAll_len ds
          have e : wt (.tuple ds) = wtAll ds + 1 := rfl
          omega
        have l1 : 1 ≤ ds.length := by rw [hds, List.length_cons]; omega
        have hs2 : SqT K H1 a xs := by
          rw [hxs]
          have h9 : SqT K (cutH d g b H1) a (x0 :: xs0) := same_seqT ((cut_ex sP).trans (cut_but B1)) hs
          exact same_seqT cut_same h9
        refine ⟨_, rfl, _, rfl, _, xs.length, rfl, .inr ⟨_, hs2, rfl⟩, d, g, _, m + 1, rfl, D1, by omega, by omega, by omega, fun at0 H2 a0 a1 D2 B2 => ?_⟩
        refine ⟨_, rfl, d, g, _, m + 1 + 1, rfl, D2, by omega, by omega, by omega, fun wy H3 w0 w1 D3 B3 => ⟨_, _, rfl, ?_⟩⟩
        obtain ⟨i, ei⟩ : ∃ i : Nat, (i : Int) = at0 := ⟨at0.toNat, by omega⟩
        rw [← ei] at a0 a1 ⊢
        have il : i < ds.length := by omega
        have BB3 := (BB1.trans B2).trans B3
        have hb3 := hb.but BB3 bd bg
        have hx3 := (hxc.keep (cut_but B2)).keep (cut_but B3)
        have done : ∀ {r : Addr} {H4 : Hp} {y : PyData}, Same H3 H4 → Dr K (cutH d g b H4) (.ref r) y → Bn B (.tuple ds) y → Q (.ref r) H4 := fun {r H4 y} S h b => k (.ref r) y H4 b h ((D3.same S).up (by omega)) (BB3.trans (but_same S))
        refine ⟨_, rfl, rfl, _, rfl, ?_⟩
        by_cases w_0 : V.int wy = V.int 0
        · rw [decide_eq_true w_0]
          refine iteT ?_
          refine ⟨_, rfl, _, rfl, (i : Int), rfl, sl_take D3 hb3 hx3 fun r1 H4 S4 h4 => ?_⟩
          refine ⟨_, rfl, _, rfl, _, _, rfl, rfl, ((i + 1 : Nat) : Int), congrArg V.int (Int.natCast_succ i).symm, ?_⟩
          dsimp only [tNoPart]
          refine sl_drop (D3.same S4) (hb3.same S4) (hx3.keep (cut_ex S4)) fun r2 H5 S5 h5 => ?_
          refine cat_two ((D3.same S4).same S5) ((hb3.same S4).same S5) (h4.keep (cut_ex S5)) h5 (by rw [List.length_take, List.length_drop]; omega) fun r3 H6 S6 h6 => ?_
          exact done ((S4.trans S5).trans S6) h6 (bn_cut i hp')
        rw [decide_eq_false w_0]
        refine iteF ?_
        refine ⟨_, rfl, rfl, _, rfl, ?_⟩
        by_cases w_1 : V.int wy = V.int 1
        · rw [decide_eq_true w_1]
          refine iteT ?_
          refine ⟨_, rfl, _, rfl, _, _, rfl, rfl, ((i + 1 : Nat) : Int), congrArg V.int (Int.natCast_succ i).symm, ?_⟩
          show rSlA K (.ref a) none (some ((i + 1 : Nat) : Int)) H3 _
          refine sl_take D3 hb3 hx3 fun r1 H4 S4 h4 => ?_
          refine ⟨_, rfl, _, rfl, (i : Int), rfl, ?_⟩
          dsimp only [tNoPart]
          refine sl_drop (D3.same S4) (hb3.same S4) (hx3.keep (cut_ex S4)) fun r2 H5 S5 h5 => ?_
          refine cat_two ((D3.same S4).same S5) ((hb3.same S4).same S5) (h4.keep (cut_ex S5)) h5 (by rw [List.length_take, List.length_drop]; omega) fun r3 H6 S6 h6 => ?_
          exact done ((S4.trans S5).trans S6) h6 (bn_twice i hp')
        rw [decide_eq_false w_1]
        refine iteF ?_
        refine ⟨_, rfl, rfl, _, rfl, ?_⟩
        obtain ⟨_, ys, ey, hs3, ha3⟩ := dr_tup hx3
        cases ey
        by_cases w_2 : V.int wy = V.int 2
        · rw [decide_eq_true w_2]
          refine iteT ?_
          refine ⟨_, rfl, a, ys, rfl, same_seqT cut_same hs3, fun p np => ?_⟩
          have S := same_up (o := .tup ys.reverse) np
          exact done S (.tup (SqT.of (cut_new D3 hb3 np)) (ha3.rev.keep (cut_ex S))) (bn_rev hp')
        rw [decide_eq_false w_2]
        refine iteF ?_
        refine ⟨_, rfl, rfl, _, rfl, ?_⟩
        by_cases w_3 : V.int wy = V.int 3
        · rw [decide_eq_true w_3]
          refine iteT ?_
          refine ⟨_, rfl, a, ys, rfl, same_seqT cut_same hs3, fun p np nm => ?_⟩
          have S := same_up (o := .lst ys) np
          exact done S (.lst nm (SqL.of (cut_new D3 hb3 np)) (ha3.keep (cut_ex S))) (bn_list hp')
        rw [decide_eq_false w_3]
        refine iteF ?_
        refine ⟨_, rfl, _, rfl, (i : Int), rfl, sl_take D3 hb3 hx3 fun r1 H4 S4 h4 => ?_⟩
        have hx4 := hx3.keep (cut_ex S4)
        obtain ⟨_, zs, ez, hs4, ha4⟩ := dr_tup hx4
        cases ez
        obtain ⟨e, he⟩ : ∃ e, ds[i]? = some e := ⟨_, List.getElem?_eq_getElem il⟩
        obtain ⟨ev, hev, hre⟩ := ha4.at he
        have dE : e.depth + 1 ≤ j := by
          have h1 := depth_all.mp (Nat.le_refl (PyData.depthAll ds)) e (List.mem_of_getElem? he)
          have h2 : PyData.depth (.tuple ds) = PyData.depthAll ds + 1 := rfl
          omega
        obtain ⟨j', rfl⟩ : ∃ j', j = j' + 1 := ⟨j - 1, by omega⟩
        have wE : wt e ≤ 100000 := by
          have := wt_mem (List.mem_of_getElem? he)
          have e : wt (.tuple ds) = wtAll ds + 1 := rfl
          omega
        refine ⟨_, rfl, _, rfl, _, rfl, a, zs, (i : Int), ev, rfl, rfl, same_seqT cut_same hs4, atI_nat hev, ?_⟩
        refine ⟨d, g, b, m + 1 + 1 + 1, ev, e, B, rfl, D3.same S4, hb3.same S4, bd, bg, by push_cast at mB; omega, hre, b1, b2, plBs_iff.mp hp' e (List.mem_of_getElem? he), wE, by omega, fun v' y H5 bn r5 D5 B5 => ?_⟩
        refine ⟨by show 1 ≤ sizeLine; decide, fun pt npt => ?_⟩
        have sT := same_up (o := .tup [v']) npt
        have hb5 := (hb3.same S4).but B5 bd bg
        have hb6 := hb5.same sT
        have h5 : Dr K (cutH d g b (upd H5 pt (.tup [v']))) (.ref pt) (.tuple [y]) := .tup (SqT.of (cut_new D5 hb5 npt)) (.cons (r5.keep (cut_ex sT)) .nil)
        have h4' := (h4.keep (cut_but B5)).keep (cut_ex (d := d) (g := g) (b := b) sT)
        have D6 := D5.put (o := .tup [v']) npt
        have hx6 := (hx4.keep (cut_but B5)).keep (cut_ex (d := d) (g := g) (b := b) sT)
        refine cat_two D6 hb6 h4' h5 (by rw [List.length_take]; show _ + 1 ≤ _; omega) fun r2 H7 S7 h7 => ?_
        refine ⟨_, rfl, _, rfl, _, _, rfl, rfl, ((i + 1 : Nat) : Int), congrArg V.int (Int.natCast_succ i).symm, ?_⟩
        dsimp only [tNoPart]
        refine sl_drop (D6.same S7) (hb6.same S7) (hx6.keep (cut_ex S7)) fun r3 H8 S8 h8 => ?_
        refine cat_two ((D6.same S7).same S8) ((hb6.same S7).same S8) (h7.keep (cut_ex S8)) h8 (by rw [List.length_append, List.length_take, List.length_drop]; show _ + 1 + _ ≤ _; omega) fun r4 H9 S9 h9 => ?_
        have S79 := (S7.trans S8).trans S9
        refine k (.ref r4) _ H9 (bn_sub hp' he bn) h9 ((D6.same S79).up (by push_cast; omega)) ?_
        exact ((BB3.trans (but_same S4)).trans B5).trans ((but_same sT).trans (but_same S79))
end
end Vk
set_option Elab.async false
set_option linter.all false
set_option maxRecDepth 100000
set_option maxHeartbeats 4000000
namespace Vk
open PySem PySem.Spec PyProof.Rows L2 Vt PySem.Vx Vs1 ClX
abbrev sLHeard : Stmt := top8 72
theorem GoodG.okM {n st la : Nat} {ms : List Mv} (g : GoodG n st la ms) (p : PreM n st la ms) {qs : List (Addr × Mv)} (e : qs.map (·.2) = ms) : OkM n st la qs := by
  have few := p.few
  rw [← e, List.length_map] at few
  have e0 := g.e0
  have e2 := g.e2
  have f := g.fw
  have b := g.bw
  rw [← e, List.map_map] at e0 e2 f b
  exact ⟨p.n1, p.n2, p.hst, p.hla, fun r hr => p.ok r.2 (by rw [← e]; exact List.mem_map.mpr ⟨r, hr, rfl⟩), asc_of_lt (by rw [e]; exact p.asc), e0, e2, few, f, b⟩
/-! ## an own object made by keyword within a try -/
section
variable {X : Cx} {CX : CXT} {k n : Nat} {f C : Addr} {fd : FuncData} {ps ks : List Str} {sp : Sp} {E : L2.St → XK} {x : Str} {p pos : Pos} {kws : List Keyword} {tk : TA} {g : List Value → List Value → List Value} {gV : List V → List V → List V}
def tMakeKS (C : Addr) (m : Nat) (sp : Sp) (gV : List V → List V → List V) (E : L2.St → XK) (tk : TA) : TE := fun σ H Q => tk σ H fun zs H2 => zs.length = m ∧ ∀ x dx, H2 x = none → H2 dx = none → dx ≠ x →
  sp (gV [.ref x] zs) (upd (upd H2 dx (.own x)) x (.ins C dx [])) (fun v H3 => v = .non ∧ Q (.ref x) H3) (E σ)
theorem run_makeKS {pins : List (Addr × Obj)} {σ : L2.St} {H : Hp} {s : Shared} {Q : VK} {ws : List Value} {zs : List V} (M : Mk X.K C f) (F : FnOk X.prog X.w X.K X.mg X.base CX k f fd ps sp) (hr : Room (k + 1) X.A) (hb : KBn X.K fd ps 1 ks g gV) (hx : PassesAt CX X σ (E σ))
    (I : Inv X pins σ H s) (rz : Vals zs ws) (l2 : zs.length = ks.length)
    (h : ∀ x dx, H x = none → H dx = none → dx ≠ x → sp (gV [.ref x] zs) (upd (upd H dx (.own x)) x (.ins C dx [])) (fun v H2 => v = .non ∧ Q (.ref x) H2) (E σ)) :
    wpAny (model X.prog X.w) X.A (call (.ref C) [] (ks.zip ws)) (EP X pins σ Q) X.xe s := by
  have hq := h (s.heap.objs.size + 1) s.heap.objs.size (I.hok.fresh (Nat.le_succ _)) (I.hok.fresh (Nat.le_refl _)) (Nat.ne_of_lt (Nat.lt_succ_self _))
  have I2 := Inv.made (C := C) I
  have r1 : Vals [V.ref (s.heap.objs.size + 1)] [Value.ref (s.heap.objs.size + 1)] := .cons rfl .nil
  have r2 := hb.rel r1 rz
  refine wpAny_call (make_map (f := f) I.kIn M.makes M.init (beq_iff_eq.mp M.fn) (codeAny_mono (F.run _ X.stack _ _ ⟨[Value.ref (s.heap.objs.size + 1)], ks.zip ws⟩ (g [Value.ref (s.heap.objs.size + 1)] ws) _ _ (E σ) (hr.make C [] (ks.zip ws))
    (I2.env0.make C [] (ks.zip ws)) (hb.to _ [Value.ref (s.heap.objs.size + 1)] ws I2.kIn rfl (rz.length.symm.trans l2)) r2 hq) fun r s' hq' => ?_))
  cases r with
  | error e => exact hx pins _ _ e s' I2 hq'
  | ok fl =>
    cases fl with
    | ret u =>
      obtain ⟨v, H', I3, rv, ev, q3⟩ := I2.after hq'
      subst ev
      exact ⟨rv, ⟨V.ref (s.heap.objs.size + 1), H', I3, rfl, q3⟩⟩
    | next => exact False.elim hq'
    | brk => exact False.elim hq'
    | cont => exact False.elim hq'
theorem pe_makeKS (M : Mk X.K C f) (F : FnOk X.prog X.w X.K X.mg X.base CX k f fd ps sp) (hr : Room (k + 1) X.A) (hg : Gl X x) (hm : X.mg x = some (.ref C)) (hb : KBn X.K fd ps 1 ks g gV) (hx : ∀ σ, PassesAt CX X σ (E σ)) (hkw : PK X kws tk)
    (hall : (backToKw pos (keywordEach kws X.env)).all (·.1.isSome) = true := by rfl) (hks : (backToKw pos (keywordEach kws X.env)).filterMap (·.1) = ks := by rfl) (hdb : (x == ("__debug__" : Str)) = false := by decide)
    (hpl : ((backTo pos (starEach [] X.env)).any (·.1) || (backToKw pos (keywordEach kws X.env)).any (·.1.isNone)) = false := by rfl) :
    PE X (.Call (.Name x p) [] kws pos) (tMakeKS C ks.length sp gV E tk) := by
  refine ⟨fun pins s σ H Q I h => ?_⟩
  refine wpAny_Call_Name_kw (ld_glob I hg hm ?_ hdb)
  refine PySem.W.callWith_KW0 (h₀ := X.base) I.ok.mod.kin M.kp hall ?_ hpl
  refine thn (hkw.run pos pins s σ H _ I h) fun ws s2 ⟨zs, H2, I2, rz, l2, q2⟩ => ⟨I2.kIn, ?_⟩
  rw [hks]
  exact run_makeKS M F hr hb (hx σ) I2 rz l2 q2
end
/-- the parts of a machine by name -/
def gI {α : Type} : List α → List α → List α
  | [c], [m, l, f, s] => [c, s, f, l, m]
  | _, _ => []
theorem gI_rel : ∀ {vs : List V} {us : List Value} {zs : List V} {ws : List Value}, Vals vs us → Vals zs ws → Vals (gI vs zs) (gI us ws) := by
  intro vs us zs ws h1 h2
  cases h1 with
  | nil => exact .nil
  | cons a h1 =>
    cases h1 with
    | cons b h1 => exact .nil
    | nil =>
      cases h2 with
      | nil => exact .nil
      | cons m h2 =>
        cases h2 with
        | nil => exact .nil
        | cons l h2 =>
          cases h2 with
          | nil => exact .nil
          | cons f h2 =>
            cases h2 with
            | nil => exact .nil
            | cons s h2 =>
              cases h2 with
              | nil => exact .cons a (.cons s (.cons f (.cons l (.cons m .nil))))
              | cons t h2 => exact .nil
theorem kbn_init {K : PySem.W.Frag} {x qual : Str} {st : Stmt} {f : Addr} {fd : FuncData} (F : Fun K x qual st f fd)
    (h : ∀ (kV doc pm : Value) (an : Option Addr) (cdv ct : Value) (c m l f s : Value), bindArgs (PySem.W.fnOf x qual (defArgs st) (defBody st) (defScope st) .none kV doc pm an cdv ct) ⟨[c], [("moves", m), ("last", l), ("first", f), ("size", s)]⟩ = pure ((["self", "size", "first", "last", "moves"] : List Str).zip [c, s, f, l, m])) :
    KBn K fd ["self", "size", "first", "last", "moves"] 1 ["moves", "last", "first", "size"] gI gI := by
  obtain ⟨oc, od, kV, doc, pm, an, cdv, ct, osl, rfl, lk, hcd⟩ := F.ex
  refine ⟨fun s us ws _ h1 h2 => ?_, fun r1 r2 => gI_rel r1 r2⟩
  match us, ws, h1, h2 with
  | [c], [m, l, f, s'], _, _ => exact BindsTo.of_eq (h kV doc pm an cdv ct c m l f s')
/-- a list display in an except suite, not the place of sys.modules -/
def tLstB (a : Addr) (t : TA) : TE := fun σ H Q => t σ H fun xs H1 => xs.length ≤ sizeLine ∧ ∀ p, H1 p = none → p ≠ a → p ≠ sysModules → Q (.ref p) (upd H1 p (.lst xs))
theorem pe_lstB {X : Cx} {a : Addr} {oe : Obj} {pn : List (Addr × Obj)} {es : List Expr} {t : TA} {pos : Pos} (h : PA (X.suite a ((a, oe) :: pn)) es t) : PE (X.suite a ((a, oe) :: pn)) (.List es pos) (tLstB a t) := by
  refine ⟨fun pins s σ H Q I q0 => wpAny_List_spliced (thn (h.run pos pins s σ H _ I q0) fun us s1 ⟨xs, H1, I1, r, z, q⟩ => ⟨r.length ▸ z, ?_⟩)⟩
  have hf : H1 s1.heap.objs.size = none := I1.fresh
  have hn : s1.heap.objs.size ≠ a := fun e => by
    have ho := (I1.pin (a, oe) (List.mem_append_left _ List.mem_cons_self)).1
    have := Heap.lt_size ho
    rw [e] at this
    exact Nat.lt_irrefl _ this
  exact ⟨.ref s1.heap.objs.size, _, I1.laid (t' := s1.toks) (o := .lst xs) (fun b u e => Heap.get?_push_of_some _ e) (Nat.le_refl _) ⟨z, us, 0, r, Heap.get?_push_size _ rfl⟩, rfl, q _ hf hn (Nat.ne_of_gt I1.big)⟩
section
variable {P : Program} {w : World} {K : PySem.W.Frag} {mg : Str → Option Value} {base : Heap}
def badL (p : PyData) : PyData := .list [.str "bad", .list [p], .bool true]
def spHeardX (K : PySem.W.Frag) (C : Addr) : Sp := fun vs H Q _ => ∃ (q : Addr) (v0 v1 v2 v3 : V) (d0 d1 d2 d3 : PyData) (b : Bool) (r : Option PyData), vs = [.ref q, .bl b] ∧ SqT K H q [v0, v1, v2, v3] ∧ Dr K H v0 d0 ∧ Dr K H v1 d1 ∧ Dr K H v2 d2 ∧ Dr K H v3 d3 ∧ wt d3 ≤ 4000 ∧ WrongR d0 d1 d2 d3 r ∧
  (∀ p, r = some p → ∀ L H', Same H H' → Dr K H' (.ref L) (badL p) → Q (.ref L) H') ∧
  (r = none → ∀ (x : Addr) (H' : Hp) (n st la : Nat) (ms : List (Addr × Mv)), Same H H' → MachAt K C H' x n st la ms → d0 = .int (n : Int) → d1 = .int (st : Int) → d2 = .int (la : Int) → d3 = .tuple (ms.map fun p => mvD p.2) → Q (.ref x) H')
theorem scHr : FnScope ["_law_plan", "_law_is_named", "_law_found", "e"] ["_law_plan", "_law_is_named"] (defScope sLHeard) := ⟨rfl, rfl, rfl, by decide +kernel, rfl, by decide +kernel, by decide +kernel⟩
theorem ok_heardX {f C CE CL fI : Addr} {fd fdI : FuncData} (F : Fun K "_law_heard" "_law_heard" sLHeard f fd) (T : Txt8 K mg) (TK : EcK K CE) (gE : mg "BadMachine" = some (.ref CE)) (hp : PySem.W.findIn K (.ref CE) "part" = some none) (hm : PySem.W.exmOne K (.ref CE) (.ref CE) = some true)
    (gL : mg "LoopError" = some (.ref CL)) (hkL : PySem.W.kitOne K (.ref CE) (.ref CL) = some true) (gM : mg "Machine" = some (.ref C))
    (MK : Mk K C fI) (bI : Binds K fdI ["self", "size", "first", "last", "moves"] []) (bK : KBn K fdI ["self", "size", "first", "last", "moves"] 1 ["moves", "last", "first", "size"] gI gI)
    (GI : FnOk P w K mg base CX0 6 fI fdI ["self", "size", "first", "last", "moves"] (spInit K C)) (GIX : FnOk P w K mg base (L2.CX P w) 6 fI fdI ["self", "size", "first", "last", "moves"] (spInitX K CE)) : FnOk P w K mg base CX0 8 f fd ["_law_plan", "_law_is_named"] (spHeardX K C) := by
  refine F.ok scHr (fun vs H Q E h => ?_) (fun cdv A outer s H vs Q E hr h => ?_)
  · obtain ⟨q, v0, v1, v2, v3, d0, d1, d2, d3, b, r, rfl, _⟩ := h
    rfl
  · obtain ⟨q, v0, v1, v2, v3, d0, d1, d2, d3, b, r, rfl, hq, h0, h1, h2, h3, hw, res, kb, kg⟩ := h
    cases r with
    | none =>
      have kg := kg rfl
      refine ⟨_, (pss_cons (ps_set (i := 2) scHr.nd rfl (.inl rfl) pe_non)
        (pss_cons (ps_try_keep (i := 3) (Wout := fun _ _ _ _ => False) rfl rfl rfl scHr.nd rfl rfl ⟨rfl, by decide, .inl gE⟩ takes0
          (fun W pn xe tk _ => (pss_one (ps_if (pt_val (pv 1))
            (pss_one (ps_set (i := 2) scHr.nd rfl (.inl rfl) (pe_makeK0 MK GI hr rfl gM bK pass0 (pk_cons (pe_ix (r := rIxT K) ix_tup (pv 0) pe_int (fun _ _ => rfl)) (pk_cons (pe_ix (r := rIxT K) ix_tup (pv 0) pe_int (fun _ _ => rfl)) (pk_cons (pe_ix (r := rIxT K) ix_tup (pv 0) pe_int (fun _ _ => rfl)) (pk_cons (pe_ix (r := rIxT K) ix_tup (pv 0) pe_int (fun _ _ => rfl)) pk_nil)))))))
            (pss_one (ps_set (i := 2) scHr.nd rfl (.inl rfl) (pe_make MK GI hr rfl gM bI .nil pass0 (pa_cons (pe_ix (r := rIxT K) ix_tup (pv 0) pe_int (fun _ _ => rfl)) (pa_cons (pe_ix (r := rIxT K) ix_tup (pv 0) pe_int (fun _ _ => rfl)) (pa_cons (pe_ix (r := rIxT K) ix_tup (pv 0) pe_int (fun _ _ => rfl)) (pa_cons (pe_ix (r := rIxT K) ix_tup (pv 0) pe_int (fun _ _ => rfl)) pa_nil))))))))))
          (fun a oe cls d pn hz hf => (pss_one ps_never)))
        (pss_one (ps_ret (pv 2))))), ?_⟩
      cases res with
      | mk n st la ms pre g =>
      obtain rfl := dr_int h0
      obtain rfl := dr_int h1
      obtain rfl := dr_int h2
      obtain ⟨l, xs, rfl, hs, ha⟩ := dr_tup h3
      obtain ⟨qs, rfl, rfl, hqs⟩ := dr_mvs ha
      have hM : MvsAt K H l qs := ⟨hs, hqs⟩
      have okM := g.okM pre rfl
      refine ⟨_, rfl, b, rfl, ?_⟩
      have fin : ∀ x dx, H x = none → H dx = none → dx ≠ x → ∀ Q' : Hp → Prop, (∀ H', Q (.ref x) H' → Q' H') → spInit K C [.ref x, .int (n : Int), .int (st : Int), .int (la : Int), .ref l] (upd (upd H dx (.own x)) x (.ins C dx [])) (fun v H2 => v = .non ∧ Q' H2) E0 := fun x dx nx nd ne Q' hQ' => by
        have S3 : Same H (upd (upd H dx (.own x)) x (.ins C dx [])) := fun b o z => by
          rw [upd_ne (ne_of_none z nx), upd_ne (ne_of_none z nd)]
          exact z
        refine ⟨n, st, la, x, dx, l, qs, rfl, upd_same, ⟨same_seqT S3 hM.tp, fun r hr => same_seqT S3 (hM.it r hr)⟩, okM, fun H' keep M => ⟨rfl, ?_⟩⟩
        have S4 : Same H H' := fun b o z => keep b o (S3 _ _ z) (ne_of_none z nx)
        exact hQ' H' (kg x H' n st la qs S4 M rfl rfl rfl (by rw [List.map_map] <;> rfl))
      cases b with
      | true =>
        refine iteT ?_
        refine ⟨_, rfl, q, _, 3, .ref l, rfl, rfl, hq, rfl, _, rfl, q, _, 2, .int (la : Int), rfl, rfl, hq, rfl, _, rfl, q, _, 1, .int (st : Int), rfl, rfl, hq, rfl, _, rfl, q, _, 0, .int (n : Int), rfl, rfl, hq, rfl, rfl, rfl, fun x dx nx nd ne => ?_⟩
        exact fin x dx nx nd ne _ fun H' h => ⟨_, rfl, h⟩
      | false =>
        refine iteF ?_
        refine ⟨_, rfl, q, _, 0, .int (n : Int), rfl, rfl, hq, rfl, _, rfl, q, _, 1, .int (st : Int), rfl, rfl, hq, rfl, _, rfl, q, _, 2, .int (la : Int), rfl, rfl, hq, rfl, _, rfl, q, _, 3, .ref l, rfl, rfl, hq, rfl, fun x dx nx nd ne => ?_⟩
        exact fin x dx nx nd ne _ fun H' h => ⟨_, rfl, h⟩
    | some p =>
      have kb := kb p rfl
      refine ⟨_, (pss_cons (ps_set (i := 2) scHr.nd rfl (.inl rfl) pe_non)
        (pss_cons (ps_try_keep (i := 3) (Wout := fun _ _ _ _ => False) rfl rfl rfl scHr.nd rfl rfl ⟨rfl, by decide, .inl gE⟩ takes0
          (fun W pn xe tk _ => (pss_one (ps_if (pt_val (pv 1))
            (pss_one (ps_set (i := 2) scHr.nd rfl (.inl rfl) (pe_makeKS MK GIX hr rfl gM bK (passAt tk) (pk_cons (pe_ix (r := rIxT K) ix_tup (pv 0) pe_int (fun _ _ => rfl)) (pk_cons (pe_ix (r := rIxT K) ix_tup (pv 0) pe_int (fun _ _ => rfl)) (pk_cons (pe_ix (r := rIxT K) ix_tup (pv 0) pe_int (fun _ _ => rfl)) (pk_cons (pe_ix (r := rIxT K) ix_tup (pv 0) pe_int (fun _ _ => rfl)) pk_nil)))))))
            (pss_one (ps_set (i := 2) scHr.nd rfl (.inl rfl) (pe_makeS MK GIX hr rfl gM bI .nil (passAt tk) (pa_cons (pe_ix (r := rIxT K) ix_tup (pv 0) pe_int (fun _ _ => rfl)) (pa_cons (pe_ix (r := rIxT K) ix_tup (pv 0) pe_int (fun _ _ => rfl)) (pa_cons (pe_ix (r := rIxT K) ix_tup (pv 0) pe_int (fun _ _ => rfl)) (pa_cons (pe_ix (r := rIxT K) ix_tup (pv 0) pe_int (fun _ _ => rfl)) pa_nil))))))))))
          (fun a oe cls d pn hz hf => (pss_one (ps_set (i := 2) scHr.nd rfl (.inl rfl) (pe_lstB (pa_cons pe_str (pa_cons (pe_lstB (pa_cons (pe_xf (C := CE) ⟨TK.ga, TK.gg, TK.ex, TK.hd⟩ hp hz hf (pv 3)) pa_nil)) (pa_cons (pe_callB (call_isS TK hz hf) (by rfl) T.isi (by decide +kernel) (pa_cons (pv 3) (pa_cons (pe_glob (v := .ref CL) (by rfl) gL rfl) pa_nil))) pa_nil))))))))
        (pss_one (ps_ret (pv 2))))), ?_⟩
      refine ⟨_, rfl, b, rfl, ?_⟩
      cases b
      case' true =>
        refine iteT ?_
        refine ⟨_, rfl, q, _, 3, v3, rfl, rfl, hq, rfl, _, rfl, q, _, 2, v2, rfl, rfl, hq, rfl, _, rfl, q, _, 1, v1, rfl, rfl, hq, rfl, _, rfl, q, _, 0, v0, rfl, rfl, hq, rfl, rfl, fun x dx nx nd ne => ?_⟩
      case' false =>
        refine iteF ?_
        refine ⟨_, rfl, q, _, 0, v0, rfl, rfl, hq, rfl, _, rfl, q, _, 1, v1, rfl, rfl, hq, rfl, _, rfl, q, _, 2, v2, rfl, rfl, hq, rfl, _, rfl, q, _, 3, v3, rfl, rfl, hq, rfl, fun x dx nx nd ne => ?_⟩
      all_goals
        have S3 : Same H (upd (upd H dx (.own x)) x (.ins C dx [])) := fun b o z => by
          rw [upd_ne (ne_of_none z nx), upd_ne (ne_of_none z nd)]
          exact z
        refine ⟨x, v0, v1, v2, v3, d0, d1, d2, d3, p, rfl, h0.keep S3, h1.keep S3, h2.keep S3, h3.keep S3, hw, res, fun d v H1 S hn hx hv => ?_⟩
        refine ⟨true, hm, fun _ a ha => ?_, fun z => nomatch z⟩
        refine ⟨_, rfl, rfl, rfl, d, _, v, rfl, hx, rfl, ?_⟩
        refine ⟨by show 1 ≤ sizeLine; decide, fun L1 n1 a1 m1 => ?_⟩
        have T1 := same_up (o := .lst [v]) n1
        refine ⟨_, rfl, .ref CL, .ref CL, true, rfl, rfl, fun dd e => ⟨_, by cases e; exact T1 _ _ hx⟩, fun u r => r, hkL, ?_⟩
        refine ⟨by show 3 ≤ sizeLine; decide, fun L nL nLa m2 => ?_⟩
        have T2 := same_up (o := .lst [.str "bad", .ref L1, .bl true]) nL
        have ha2 : (upd (upd H1 L1 (.lst [v])) L (.lst [.str "bad", .ref L1, .bl true])) a = none := by
          rw [upd_ne (Ne.symm nLa), upd_ne (Ne.symm a1)]
          exact ha
        have T3 := same_up (o := ExV (.ref CE) (some d) a) ha2
        refine ⟨_, rfl, kb L _ (((S3.trans S).trans T1).trans (T2.trans T3)) ?_⟩
        exact .lst m2 (SqL.of (T3 _ _ upd_same)) (.cons (.str _) (.cons (.lst m1 (SqL.of (T3 _ _ (T2 _ _ upd_same))) (.cons (hv.keep (T1.trans (T2.trans T3))) .nil)) (.cons (.bl _) .nil)))
end
end Vk
set_option Elab.async false
set_option linter.all false
set_option maxRecDepth 100000
set_option maxHeartbeats 4000000
namespace Vk
open PySem PySem.Spec PyProof.Rows L2 Vt PySem.Vx Vs1 ClX
/-! ## the repr of the parts of a machine tells them apart -/
def cpsL (z : Str) : List Nat := z.cps.toList
theorem cps_app (x y : Str) : cpsL (x ++ y) = cpsL x ++ cpsL y := by
  show (x.cps ++ y.cps).toList = _
  rw [Array.toList_append] <;> rfl
def numL (a : Nat) : List Nat := cpsL (PyData.shown (.int (a : Int)))
theorem numL_eq (a : Nat) : numL a = (Nat.toDigits 10 a).map Char.toNat := PySem.W.KIN.signs_num a
theorem num_dig {a : Nat} (h : a < 1000) : ∀ c ∈ numL a, 48 ≤ c ∧ c ≤ 57 := by
  intro c hc
  rw [numL_eq] at hc
  obtain ⟨ch, hm, rfl⟩ := List.mem_map.mp hc
  have := Nat.isDigit_of_mem_toDigits (by decide) (by decide) hm
  simp only [Char.isDigit, Bool.and_eq_true, decide_eq_true_eq] at this
  have h1 : 48 ≤ ch.val.toNat := this.1
  have h2 : ch.val.toNat ≤ 57 := this.2
  exact ⟨h1, h2⟩
theorem num_inj {a b : Nat} (ha : a < 1000) (hb : b < 1000) (h : numL a = numL b) : a = b := by
  rw [numL_eq, numL_eq] at h
  rw [← PySem.W.KIN.val_back a, ← PySem.W.KIN.val_back b, h]
theorem split_dig {x y : Nat} (hx : ¬ (48 ≤ x ∧ x ≤ 57)) (hy : ¬ (48 ≤ y ∧ y ≤ 57)) : ∀ {l m s t : List Nat}, (∀ c ∈ l, 48 ≤ c ∧ c ≤ 57) → (∀ c ∈ m, 48 ≤ c ∧ c ≤ 57) → l ++ x :: s = m ++ y :: t → l = m ∧ x = y ∧ s = t
  | [], [], s, t, _, _, h => by
    obtain ⟨e1, e2⟩ := List.cons.inj h
    exact ⟨rfl, e1, e2⟩
  | [], c :: m, s, t, _, hm, h => by
    obtain ⟨e1, e2⟩ := List.cons.inj h
    exact absurd (e1 ▸ hm c List.mem_cons_self) hx
  | c :: l, [], s, t, hl, _, h => by
    obtain ⟨e1, e2⟩ := List.cons.inj h
    exact absurd (e1 ▸ hl c List.mem_cons_self) hy
  | c :: l, d :: m, s, t, hl, hm, h => by
    obtain ⟨e1, e2⟩ := List.cons.inj h
    obtain ⟨e3, e4⟩ := split_dig hx hy (fun c hc => hl c (.tail _ hc)) (fun c hc => hm c (.tail _ hc)) e2
    exact ⟨by rw [e1, e3], e4⟩
theorem num_dec {a b x y : Nat} {s t : List Nat} (ha : a < 1000) (hb : b < 1000) (hx : ¬ (48 ≤ x ∧ x ≤ 57)) (hy : ¬ (48 ≤ y ∧ y ≤ 57)) (h : numL a ++ x :: s = numL b ++ y :: t) : a = b ∧ x = y ∧ s = t := by
  obtain ⟨e1, e2⟩ := split_dig hx hy (num_dig ha) (num_dig hb) h
  exact ⟨num_inj ha hb e1, e2⟩
theorem sg_look : (List.range 26).all (fun i => decide (cpsL (PyData.shown (.str (sg (97 + i)))) = [39, 97 + i, 39])) = true := by decide +kernel
theorem sg_text {c : Nat} (h1 : 97 ≤ c) (h2 : c ≤ 122) : cpsL (PyData.shown (.str (sg c))) = [39, c, 39] := by
  have t := of_decide_eq_true (List.all_eq_true.mp sg_look (c - 97) (List.mem_range.mpr (by omega)))
  rw [show 97 + (c - 97) = c by omega] at t
  exact t
def mvL (m : Mv) : List Nat := cpsL (mvD m).shown
theorem mv_text {n : Nat} (hn : n ≤ 999) {m : Mv} (ok : OkMv n m) : mvL m = 40 :: (numL m.s ++ 44 :: (32 :: 39 :: m.c :: 39 :: 44 :: 32 :: (numL m.t ++ 41 :: []))) := by
  obtain ⟨h1, h2, h3, h4⟩ := ok
  have e : (mvD m).shown = tupleText [PyData.shown (.int (m.s : Int)), PyData.shown (.str (sg m.c)), PyData.shown (.int (m.t : Int))] := rfl
  unfold mvL
  rw [e]
  unfold tupleText
  show cpsL (Str.ofString "(" ++ (PyData.shown (.int (m.s : Int)) ++ Str.ofString ", " ++ (PyData.shown (.str (sg m.c)) ++ Str.ofString ", " ++ PyData.shown (.int (m.t : Int)))) ++ Str.ofString ")") = _
  rw [cps_app, cps_app, cps_app, cps_app, cps_app, cps_app, sg_text h3 h4]
  have a1 : cpsL (Str.ofString "(") = [40] := rfl
  have a2 : cpsL (Str.ofString ", ") = [44, 32] := rfl
  have a3 : cpsL (Str.ofString ")") = [41] := rfl
  rw [a1, a2, a3]
  show [40] ++ (numL m.s ++ [44, 32] ++ ([39, m.c, 39] ++ [44, 32] ++ numL m.t)) ++ [41] = _
  simp [List.append_assoc]
theorem mv_dec {n n' : Nat} (hn : n ≤ 999) (hn' : n' ≤ 999) {a b : Mv} (oa : OkMv n a) (ob : OkMv n' b) {s t : List Nat} (h : mvL a ++ s = mvL b ++ t) : a = b ∧ s = t := by
  rw [mv_text hn oa, mv_text hn' ob] at h
  have h : (numL a.s ++ 44 :: (32 :: 39 :: a.c :: 39 :: 44 :: 32 :: (numL a.t ++ 41 :: []))) ++ s = (numL b.s ++ 44 :: (32 :: 39 :: b.c :: 39 :: 44 :: 32 :: (numL b.t ++ 41 :: []))) ++ t := (List.cons.inj h).2
  rw [List.append_assoc, List.append_assoc] at h
  obtain ⟨e1, _, h⟩ := num_dec (by have := oa.1; omega) (by have := ob.1; omega) (by decide) (by decide) h
  obtain ⟨_, h⟩ := List.cons.inj h
  obtain ⟨_, h⟩ := List.cons.inj h
  obtain ⟨e2, h⟩ := List.cons.inj h
  obtain ⟨_, h⟩ := List.cons.inj h
  obtain ⟨_, h⟩ := List.cons.inj h
  obtain ⟨_, h⟩ := List.cons.inj h
  have h : (numL a.t ++ 41 :: []) ++ s = (numL b.t ++ 41 :: []) ++ t := h
  rw [List.append_assoc, List.append_assoc] at h
  obtain ⟨e3, _, h⟩ := num_dec (by have := oa.2.1; omega) (by have := ob.2.1; omega) (by decide) (by decide) h
  exact ⟨mv_eq.mpr ⟨e1, e2, e3⟩, h⟩
/-- the moves behind the first -/
def mvU : List Mv → List Nat → List Nat
  | [], r => r
  | m :: l, r => 44 :: 32 :: (mvL m ++ mvU l r)
theorem mvU_dec {n n' : Nat} (hn : n ≤ 999) (hn' : n' ≤ 999) {r r' u u' : List Nat} (hr : r = [41] ∨ r = [44, 41]) (hr' : r' = [41] ∨ r' = [44, 41]) : ∀ {l l' : List Mv}, (∀ m ∈ l, OkMv n m) → (∀ m ∈ l', OkMv n' m) → mvU l r ++ u = mvU l' r' ++ u' → l = l'
  | [], [], _, _, _ => rfl
  | [], m :: l', _, _, h => by
    exfalso
    rcases hr with rfl | rfl
    · exact absurd (List.cons.inj h).1 (by decide)
    · exact absurd (List.cons.inj (List.cons.inj h).2).1 (by decide)
  | m :: l, [], _, _, h => by
    exfalso
    rcases hr' with rfl | rfl
    · exact absurd (List.cons.inj h).1 (by decide)
    · exact absurd (List.cons.inj (List.cons.inj h).2).1 (by decide)
  | m :: l, m' :: l', ok, ok', h => by
    have h := (List.cons.inj (List.cons.inj h).2).2
    have h : (mvL m ++ mvU l r) ++ u = (mvL m' ++ mvU l' r') ++ u' := h
    rw [List.append_assoc, List.append_assoc] at h
    obtain ⟨e, h⟩ := mv_dec hn hn' (ok m List.mem_cons_self) (ok' m' List.mem_cons_self) h
    rw [e, mvU_dec hn hn' hr hr' (fun m hm => ok m (.tail _ hm)) (fun m hm => ok' m (.tail _ hm)) h]
theorem join_mvU : ∀ (m : Mv) (l : List Mv) (r : List Nat), cpsL (Str.join (Str.ofString ", ") (PyData.shownAll ((m :: l).map mvD))) ++ r = mvL m ++ mvU l r
  | m, [], r => rfl
  | m, m' :: l, r => by
    have e : Str.join (Str.ofString ", ") (PyData.shownAll ((m :: m' :: l).map mvD)) = (mvD m).shown ++ Str.ofString ", " ++ Str.join (Str.ofString ", ") (PyData.shownAll ((m' :: l).map mvD)) := rfl
    rw [e, cps_app, cps_app, List.append_assoc, List.append_assoc, join_mvU m' l r]
    rfl
def mvT (ms : List Mv) : List Nat := cpsL (PyData.shown (.tuple (ms.map mvD)))
theorem len_shownAll : ∀ ds : List PyData, (PyData.shownAll ds).length = ds.length
  | [] => rfl
  | d :: ds => congrArg Nat.succ (len_shownAll ds)
theorem mvT_cons (m : Mv) (l : List Mv) : ∃ r, (r = [41] ∨ r = [44, 41]) ∧ mvT (m :: l) = 40 :: (mvL m ++ mvU l r) := by
  refine ⟨cpsL (Str.ofString (if (PyData.shownAll ((m :: l).map mvD)).length == 1 then ",)" else ")")), ?_, ?_⟩
  · split
    · exact .inr rfl
    · exact .inl rfl
  · have e : PyData.shown (.tuple ((m :: l).map mvD)) = Str.ofString "(" ++ Str.join (Str.ofString ", ") (PyData.shownAll ((m :: l).map mvD)) ++ Str.ofString (if (PyData.shownAll ((m :: l).map mvD)).length == 1 then ",)" else ")") := rfl
    unfold mvT
    rw [e, cps_app, cps_app, List.append_assoc, join_mvU]
    rfl
theorem mvT_dec {n n' : Nat} (hn : n ≤ 999) (hn' : n' ≤ 999) {l l' : List Mv} (ok : ∀ m ∈ l, OkMv n m) (ok' : ∀ m ∈ l', OkMv n' m) (h : mvT l = mvT l') : l = l' := by
  cases l with
  | nil =>
    cases l' with
    | nil => rfl
    | cons m l' =>
      obtain ⟨r, _, e⟩ := mvT_cons m l'
      have e0 : mvT [] = [40, 41] := rfl
      rw [e, e0, mv_text hn' (ok' m List.mem_cons_self)] at h
      exact absurd (List.cons.inj (List.cons.inj h).2).1 (by decide)
  | cons m l =>
    obtain ⟨r, hr, e⟩ := mvT_cons m l
    cases l' with
    | nil =>
      have e0 : mvT [] = [40, 41] := rfl
      rw [e, e0, mv_text hn (ok m List.mem_cons_self)] at h
      exact absurd (List.cons.inj (List.cons.inj h).2).1 (by decide)
    | cons m' l' =>
      obtain ⟨r', hr', e'⟩ := mvT_cons m' l'
      rw [e, e'] at h
      have h := (List.cons.inj h).2
      obtain ⟨e1, h⟩ := mv_dec hn hn' (ok m List.mem_cons_self) (ok' m' List.mem_cons_self) h
      have h2 : mvU l r ++ [] = mvU l' r' ++ [] := by rw [List.append_nil, List.append_nil]; exact h
      rw [e1, mvU_dec hn hn' hr hr' (fun m hm => ok m (.tail _ hm)) (fun m hm => ok' m (.tail _ hm)) h2]
def plD (n st la : Nat) (ms : List Mv) : PyData := .tuple [.int (n : Int), .int (st : Int), .int (la : Int), .tuple (ms.map mvD)]
theorem pl_text (n st la : Nat) (ms : List Mv) : cpsL (plD n st la ms).shown = 40 :: (numL n ++ 44 :: (32 :: (numL st ++ 44 :: (32 :: (numL la ++ 44 :: (32 :: (mvT ms ++ [41]))))))) := by
  have e : (plD n st la ms).shown = Str.ofString "(" ++ (PyData.shown (.int (n : Int)) ++ Str.ofString ", " ++ (PyData.shown (.int (st : Int)) ++ Str.ofString ", " ++ (PyData.shown (.int (la : Int)) ++ Str.ofString ", " ++ PyData.shown (.tuple (ms.map mvD))))) ++ Str.ofString ")" := rfl
  rw [e]
  rw [cps_app, cps_app, cps_app, cps_app, cps_app, cps_app, cps_app, cps_app]
  have a1 : cpsL (Str.ofString "(") = [40] := rfl
  have a2 : cpsL (Str.ofString ", ") = [44, 32] := rfl
  have a3 : cpsL (Str.ofString ")") = [41] := rfl
  rw [a1, a2, a3]
  show [40] ++ (numL n ++ [44, 32] ++ (numL st ++ [44, 32] ++ (numL la ++ [44, 32] ++ mvT ms))) ++ [41] = _
  simp [List.append_assoc]
theorem pl_inj {n st la n' st' la' : Nat} {ms ms' : List Mv} (p : PreM n st la ms) (p' : PreM n' st' la' ms') (h : (plD n st la ms).shown = (plD n' st' la' ms').shown) : n = n' ∧ st = st' ∧ la = la' ∧ ms = ms' := by
  have h := congrArg cpsL h
  rw [pl_text, pl_text] at h
  have b1 := p.n2
  have b2 := p'.n2
  have b3 := p.hst
  have b4 := p'.hst
  have b5 := p.hla
  have b6 := p'.hla
  have h := (List.cons.inj h).2
  obtain ⟨e1, _, h⟩ := num_dec (by omega) (by omega) (by decide) (by decide) h
  have h := (List.cons.inj h).2
  obtain ⟨e2, _, h⟩ := num_dec (by omega) (by omega) (by decide) (by decide) h
  have h := (List.cons.inj h).2
  obtain ⟨e3, _, h⟩ := num_dec (by omega) (by omega) (by decide) (by decide) h
  have h := (List.cons.inj h).2
  have h := List.append_cancel_right h
  exact ⟨e1, e2, e3, mvT_dec b1 b2 p.ok p'.ok h⟩
end Vk
set_option Elab.async false
set_option linter.all false
set_option maxRecDepth 100000
set_option maxHeartbeats 4000000
namespace PySem.W
open PySem PySem.Spec PySem.Calls PyProof.Rows
section
variable {prog : Program} {w : World} {A : Around} {E : Value → Shared → Prop} {s : Shared} {K : Frag} {x C f : Addr} {ox : Obj} {od : Option Obj} {name : Str}
theorem own_special {M : Model} {args : List Value} {Q : Option Value → Shared → Prop} (X : K.In s.heap) (I : InstAt s.heap x ox C od) (hs : findIn K (.ref C) name = some (some (.ref f))) (hf : isFn K (.ref f) = true)
    (h : wpAny M A (call (.ref f) (.ref x :: args)) (fun v => Q (some v)) E s) : wpAny M A (callSpecial? (.ref x) name args) Q E s :=
  wpAny_bind (wpAny_bind (I.type.here ((looks_findIn X hs).here (wpAny_holding (wpAny_bind ((bind_fn X _ (beq_iff_eq.mp hf)).here (wpAny_bind (wpAny_mono h (fun _ _ z => wpAny_pure z) fun _ _ z => z))))))))
open Builtin in
theorem own_len {Q : Value → Shared → Prop} (X : K.In s.heap) (I : InstAt s.heap x ox C od) (hs : findIn K (.ref C) "__len__" = some (some (.ref f))) (hf : isFn K (.ref f) = true)
    (h : wpAny (model prog w) A.in1 (call (.ref f) [.ref x]) (fun r s' => ∃ n u, r = .int n u ∧ 0 ≤ n ∧ n < 2 ^ 63 ∧ Q (.int n s'.toks) { s' with toks := s'.toks + 1 }) E s) : wpAny (model prog w) A (call (.builtin "len") [.ref x]) Q E s := by
  refine Calls.call_function_entry kind_len plain_len entry_len (args_len1 _) ?_
  unfold Builtin.«len»
  refine wpAny_bind (m := oneArg "len" _) (wpAny_pure ?_)
  refine wpAny_bind (m := callSpecial? (.ref x) (Str.ofString "__len__")) (own_special X I hs hf (wpAny_mono h (fun r s' hr => ?_) fun _ _ y => y))
  obtain ⟨n, u, rfl, h0, h1, hq⟩ := hr
  refine wpAny_bind (wpAny_holding (wpAny_pure ?_))
  refine wpAny_bind (wpAny_letGo ?_)
  show wpAny _ _ (if n < 0 then _ else _) _ _ _
  rw [if_neg (by omega)]
  show wpAny _ _ (if n ≥ 2 ^ 63 then _ else _) _ _ _
  rw [if_neg (by omega)]
  exact wpAny_bind (wpAny_mkInt (wpAny_pure ⟨_, rfl, hq⟩))
end
end PySem.W
namespace Vk
open PySem PySem.Spec PyProof.Rows L2 Vt PySem.Vx Vs1 ClX
abbrev sMLen : Stmt := inClass (top8 28) 1
section
variable {X : Cx} {H : Hp} {CX : CXT} {k : Nat} {f C : Addr} {fd : FuncData} {ps : List Str} {sp : Sp} {E : XK}
def rLenO (C : Addr) (sp : Sp) (E : XK) : List V → Hp → VK → Prop := fun vs H Q => ∃ a dx fs, vs = [.ref a] ∧ H a = some (.ins C dx fs) ∧ sp [.ref a] H (fun v H' => ∃ n : Nat, v = .int (n : Int) ∧ n < 1000000 ∧ Q (.int (n : Int)) H') E
theorem cr_lenO (F : FnOk X.prog X.w X.K X.mg X.base CX k f fd ps sp) (hr : Room (k + 1) X.A) (hs : PySem.W.findIn X.K (.ref C) "__len__" = some (some (.ref f))) (hf : PySem.W.isFn X.K (.ref f) = true) (hb : Binds X.K fd ps []) (hx : Passes CX X E) :
    CallR X (.builtin "len") (rLenO C sp E) := by
  intro pins s σ H xs us Q I rv h
  obtain ⟨a, dx, fs, rfl, ha, hsp⟩ := h
  cases rv with
  | cons h1 h2 =>
    cases h2
    cases h1
    obtain ⟨m, J, _⟩ := ins_get I.hok ha
    obtain ⟨od, J, _⟩ := J.look
    refine PySem.W.own_len I.kIn J hs hf (own_run F hb hx hr.in1 rfl I (Paired.cons (F := RelV) (a := V.ref a) rfl .nil) hsp fun v s' z => ?_)
    obtain ⟨v', H', I', r', n, e, few, q⟩ := z
    subst e
    obtain ⟨t, rfl⟩ := r'
    exact ⟨_, t, rfl, Int.natCast_nonneg _, by omega, ⟨V.int (n : Int), H', I'.tok _, ⟨_, rfl⟩, q⟩⟩
theorem cr_range1 : CallR X (.type "range") (fun vs H Q => ∃ j, vs = [V.int j] ∧ ∀ p, H p = none → Q (.ref p) (upd H p (.rng 0 j))) := by
  intro pins s σ H vs us Q I r h
  obtain ⟨j, rfl, q⟩ := h
  obtain ⟨u1, rfl, ri⟩ := vals1 r
  obtain ⟨t, rfl⟩ := ri
  refine call_range_1 ⟨.ref s.heap.objs.size, upd H s.heap.objs.size (.rng 0 j), I.laid (t' := s.toks + 1 + 1) (fun b o e => Heap.get?_push_of_some _ e) (Nat.le_refl _) ?_, rfl, q _ (I.hok.fresh (Nat.le_refl _))⟩
  exact ⟨s.toks, t, s.toks + 1, Heap.get?_push_size _ rfl⟩
theorem cr_lenR : CallR X (.builtin "len") (fun vs H Q => ∃ (a : Addr) (n : Nat), vs = [V.ref a] ∧ H a = some (.rng 0 (n : Int)) ∧ n < 1000000 ∧ Q (.int (n : Int)) H) := by
  intro pins s σ H vs us Q I r h
  obtain ⟨a, n, rfl, ha, few, q⟩ := h
  obtain ⟨u1, rfl, ri⟩ := vals1 r
  cases ri
  obtain ⟨t1, t2, t3, ho⟩ := I.hok a _ ha
  refine call_len_range (n := n) ho (by rw [rangeSize_one]; split <;> omega) (by omega) ⟨.int (n : Int), H, I.tok _, ⟨_, rfl⟩, q⟩
end
section
variable {P : Program} {w : World} {K : PySem.W.Frag} {mg : Str → Option Value} {base : Heap}
def spMLen (K : PySem.W.Frag) (C : Addr) : Sp := fun vs H Q _ => ∃ (a : Addr) (n st la : Nat) (ms : List (Addr × Mv)), vs = [.ref a] ∧ MachAt K C H a n st la ms ∧ ∀ H', Same H H' → Q (.int (n : Int)) H'
theorem scML : FnScope ["self"] ["self"] (defScope sMLen) := ⟨rfl, rfl, rfl, by decide +kernel, rfl, by decide +kernel, by decide +kernel⟩
theorem ok_mlen {f C : Addr} {fd : FuncData} (F : Fun K "__len__" "Machine.__len__" sMLen f fd) (T : Txt8 K mg) (M : MCls K C) : FnOk P w K mg base CX0 1 f fd ["self"] (spMLen K C) := by
  refine F.ok scML (fun vs H Q E h => ?_) (fun cdv A outer s H vs Q E hr h => ?_)
  · obtain ⟨a, n, st, la, ms, rfl, _⟩ := h
    rfl
  · obtain ⟨a, n, st, la, ms, rfl, hA, k⟩ := h
    obtain ⟨d, l, E1, F1, z, ha, hM, _⟩ := hA.ob
    refine ⟨_, (pss_one (ps_ret (pe_callB cr_lenR (by rfl) T.len PySem.boot_len (pa_cons (pe_callTy cr_range1 (by rfl) T.rng (by decide +kernel) (pa_cons (pe_fld (pv 0) rfl) pa_nil)) pa_nil)))), ?_⟩
    have n9 := hA.ok.n2
    exact ⟨_, rfl, a, C, d, _, _, rfl, ha, M.cl, M.a1, lk1 .., _, rfl, fun p np => ⟨p, n, rfl, upd_same, by omega, k _ (same_up np)⟩⟩
/-- a machine against what is none -/
def spEqN (K : PySem.W.Frag) (C : Addr) : Sp := fun vs H Q _ => ∃ (a : Addr) (y : V) (t : Value), vs = [.ref a, y] ∧ TyX K H y t ∧ PySem.W.kitOne K t (.ref C) = some false ∧ Q (.bl false) H
theorem ok_eqN {f C : Addr} {fd : FuncData} (F : Fun K "__eq__" "Machine.__eq__" sEq f fd) (T : Txt8 K mg) (gM : mg "Machine" = some (.ref C)) : FnOk P w K mg base CX0 1 f fd ["self", "other"] (spEqN K C) := by
  refine F.ok scEqA (fun vs H Q E h => ?_) (fun cdv A outer s H vs Q E hr h => ?_)
  · obtain ⟨a, y, t, rfl, _⟩ := h
    rfl
  · obtain ⟨a, y, t, rfl, ty, hk, k⟩ := h
    refine ⟨_, (pss_one (ps_ret (pe_and (pe_callB call_isi (by rfl) T.isi (by decide +kernel) (pa_cons (pv 1) (pa_cons (pe_glob (v := .ref C) (by rfl) gM rfl) pa_nil))) (pe_and (pe_cmpR op_eq (pe_fld (pv 0) rfl) (pe_fld (pv 1) rfl) (nomark _)) (pe_and (pe_cmpR op_eq (pe_fld (pv 0) rfl) (pe_fld (pv 1) rfl) (nomark _)) (pe_and (pe_cmpR op_eq (pe_fld (pv 0) rfl) (pe_fld (pv 1) rfl) (nomark _)) (pe_one (pe_cmpR (op_eqD hr.units) (pe_fld (pv 0) rfl) (pe_fld (pv 1) rfl) (nomark _))))))))), ?_⟩
    refine ⟨_, rfl, _, _, t, .ref C, false, rfl, .own C, ty, hk, _, rfl, ?_⟩
    exact iteF k
end
end Vk
set_option Elab.async false
set_option linter.all false
set_option maxRecDepth 100000
set_option maxHeartbeats 4000000
namespace Vk
open PySem PySem.Spec PyProof.Rows L2 Vt PySem.Vx Vs1 ClX
abbrev sLRight : Stmt := top8 73
theorem shw {d : PyData} (h : plainD d = true) (hw : wt d ≤ 100000) : d.showable = true ∧ d.shown.length ≤ sizeLine := by
  refine ⟨show_plain d h, ?_⟩
  have := shown_wt d h
  rw [sizeLine_eq]
  omega
theorem wt_mvD (m : Mv) : wt (mvD m) = 5 := rfl
theorem clash_mem {e : Int} {ms : List Mv} {m : Mv} (c : ClashG e ms m) : m ∈ ms := by
  obtain ⟨j, h, _⟩ := c
  exact List.mem_of_getElem? h
/-- how great what is told may be -/
theorem pay_ok {d0 d1 d2 d3 p : PyData} (h : WrongP d0 d1 d2 d3 p) (hp : plainD d3 = true) : plainD p = true ∧ wt p ≤ wt d3 + 10 ∧ p.depth ≤ d3.depth := by
  have el : ∀ {ds : List PyData} {x : PyData}, plainD (.tuple ds) = true → x ∈ ds → plainD x = true ∧ wt x ≤ wt (.tuple ds) + 10 ∧ x.depth ≤ PyData.depth (.tuple ds) := fun {ds x} hp hx => by
    refine ⟨plainAll_iff.mp hp x hx, ?_, ?_⟩
    · have := wt_mem hx
      show wt x ≤ (wtAll ds + 1) + 10
      omega
    · have := depth_all.mp (Nat.le_refl (PyData.depthAll ds)) x hx
      rw [PyData.depth]
      omega
  have lit : ∀ z : Str, (z.cps.toList.all fun c => decide (c < 128)) = true → z.length ≤ 9 → plainD (.str z) = true ∧ wt (.str z) ≤ wt d3 + 10 ∧ (PyData.str z).depth ≤ d3.depth := fun z h l => ⟨h, by show z.length + 1 ≤ _; omega, Nat.zero_le _⟩
  cases h with
  | size => exact lit _ (by decide) (by decide)
  | first => exact lit _ (by decide) (by decide)
  | last => exact lit _ (by decide) (by decide)
  | moves n st la _ _ _ _ _ _ m =>
    cases m with
    | moves => exact lit _ (by decide) (by decide)
    | order => exact lit _ (by decide) (by decide)
    | move ds j _ hx => exact el hp (List.mem_of_getElem? hx)
  | bad n st la ms b pre bd =>
    have mm : ∀ m : Mv, m ∈ ms → plainD (mvD m) = true ∧ wt (mvD m) ≤ wt (.tuple (ms.map mvD)) + 10 ∧ (mvD m).depth ≤ PyData.depth (.tuple (ms.map mvD)) := fun m hm => el hp (List.mem_map.mpr ⟨m, hm, rfl⟩)
    cases bd with
    | one m c => exact mm m (clash_mem c)
    | two m _ c => exact mm m (clash_mem c)
    | off x _ _ xn =>
      have := pre.n2
      refine ⟨decide_eq_true (show ((x : Nat) : Int).natAbs < 10 ^ 41 by omega), ?_, Nat.zero_le _⟩
      show 1 ≤ _
      omega
section
variable {P : Program} {w : World} {K : PySem.W.Frag} {mg : Str → Option Value} {base : Heap}
/-- one of the four parts of a plan: how great it may be -/
structure Fit (d : PyData) : Prop where
  pl : plainD d = true
  wt : wt d ≤ 4000
  dp : d.depth ≤ 50
def spRight (K : PySem.W.Frag) : Sp := fun vs H Q _ => ∃ (q q' l' : Addr) (v0 v1 v2 v3 : V) (d0 d1 d2 d3 : PyData) (r : Option PyData) (n' st' la' : Nat) (qs' : List (Addr × Mv)), vs = [.ref q, .ref q'] ∧ SqT K H q [v0, v1, v2, v3] ∧ Dr K H v0 d0 ∧ Dr K H v1 d1 ∧ Dr K H v2 d2 ∧ Dr K H v3 d3 ∧
  Fit d0 ∧ Fit d1 ∧ Fit d2 ∧ Fit d3 ∧ topN d3 ≤ 60 ∧ WrongR d0 d1 d2 d3 r ∧ SqT K H q' [.int (n' : Int), .int (st' : Int), .int (la' : Int), .ref l'] ∧ MvsAt K H l' qs' ∧ PreM n' st' la' (qs'.map (·.2)) ∧ GoodG n' st' la' (qs'.map (·.2)) ∧ qs'.length ≤ 60 ∧ ∀ H', Same H H' → Q (.bl true) H'
theorem scLR : FnScope ["_law_plan", "_law_mate", "_law_was", "_law_due", "_law_is_named", "_law_told"] ["_law_plan", "_law_mate"] (defScope sLRight) := ⟨rfl, rfl, rfl, by decide +kernel, rfl, by decide +kernel, by decide +kernel⟩
theorem ok_right {f C fWr fHd fPa fLn fEq : Addr} {fd fdWr fdHd fdPa fdLn fdEq : FuncData} (F : Fun K "_law_right" "_law_right" sLRight f fd) (T : Txt8 K mg) (mrepr : mg "repr" = none) (gM : mg "Machine" = some (.ref C)) (IC : C8.InsC K C)
    (GWr : FnOk P w K mg base CX0 4 fWr fdWr ["_law_plan"] (spWrong K)) (gWr : mg "_law_wrong" = some (.ref fWr)) (kWr : PySem.W.keepIn K (.ref fWr) = true) (bWr : Binds K fdWr ["_law_plan"] [])
    (GHd : FnOk P w K mg base CX0 8 fHd fdHd ["_law_plan", "_law_is_named"] (spHeardX K C)) (gHd : mg "_law_heard" = some (.ref fHd)) (kHd : PySem.W.keepIn K (.ref fHd) = true) (bHd : Binds K fdHd ["_law_plan", "_law_is_named"] [])
    (GPa : FnOk P w K mg base CX0 1 fPa fdPa ["_law_it"] (spLParts K C)) (gPa : mg "_law_parts" = some (.ref fPa)) (kPa : PySem.W.keepIn K (.ref fPa) = true) (bPa : Binds K fdPa ["_law_it"] [])
    (GLn : FnOk P w K mg base CX0 1 fLn fdLn ["self"] (spMLen K C)) (sLn : PySem.W.findIn K (.ref C) "__len__" = some (some (.ref fLn))) (fLn' : PySem.W.isFn K (.ref fLn) = true) (bLn : Binds K fdLn ["self"] [])
    (GEq : FnOk P w K mg base CX0 1 fEq fdEq ["self", "other"] (spEqA K C)) (GEn : FnOk P w K mg base CX0 1 fEq fdEq ["self", "other"] (spEqN K C)) (sEq' : PySem.W.findIn K (.ref C) "__eq__" = some (some (.ref fEq))) (fEq' : PySem.W.isFn K (.ref fEq) = true) (bEq : Binds K fdEq ["self", "other"] [])
    (hmo : PySem.W.mroIn K C (.type "object") = some true) (hne : PySem.W.findIn K (.ref C) "__ne__" = some (some (.builtin "object.__ne__")))
    (nfC : PySem.W.notFirst K C (.ref C) = true) (nfT : PySem.W.notFirst K C (.type "tuple") = true) (nfS : PySem.W.notFirst K C (.type "str") = true)
    (kT : PySem.W.kitOne K (.type "tuple") (.ref C) = some false) (kS : PySem.W.kitOne K (.type "str") (.ref C) = some false) :
    FnG P w K mg base CX0 9 f fd ["_law_plan", "_law_mate"] (spRight K) := by
  refine okG F scLR (fun vs H Q E h => ?_) (fun cdv A outer s H vs Q E hgd hr h => ?_)
  · obtain ⟨q, q', l', v0, v1, v2, v3, d0, d1, d2, d3, r, n', st', la', qs', rfl, _⟩ := h
    rfl
  · obtain ⟨q, q', l', v0, v1, v2, v3, d0, d1, d2, d3, r, n', st', la', qs', rfl, hq, h0, h1, h2, h3, f0, f1, f2, f3, ht, res, hq', hM', pre', g', few', k⟩ := h
    have hr1 : Room 1 _ := hr.mono (by decide)
    have hr2 : Room 2 _ := hr.mono (by decide)
    have hr4 : Room 4 _ := hr.mono (by decide)
    have hr8 : Room 8 _ := hr
    refine ⟨_, (pss_cons (ps_par (i := 2) (j := 3) (by rfl) scLR.nd rfl rfl (by decide) rfl rfl (pa_cons (pe_callB (call_reprV hgd hr1) (by rfl) mrepr (by decide +kernel) (pa_cons (pv 0) pa_nil)) (pa_cons (pe_call GWr hr4 rfl gWr kWr bWr .nil pass0 (pa_cons (pv 0) pa_nil)) pa_nil)) (by rfl))
        (pss_cons (ps_for PassesOwn.never rfl (pi_tup (pe_tup (pa_cons pe_bl (pa_cons pe_bl pa_nil)))) (pg_name (i := 4) scLR.nd rfl (.inl rfl)) (pss_cons (ps_set (i := 5) scLR.nd rfl (.inl rfl) (pe_call GHd hr8 rfl gHd kHd bHd .nil pass0 (pa_cons (pv 0) (pa_cons (pv 4) pa_nil))))
        (pss_cons (ps_if (pt_cmpR op_ne (pe_callB (call_reprV hgd hr1) (by rfl) mrepr (by decide +kernel) (pa_cons (pv 0) pa_nil)) (pv 2) (nomark _)) (pss_one (ps_ret pe_bl)) pss_nil)
        (pss_cons (ps_if (pt_cmpR (op_neE hr1.units) (pv 3) (pe_lstN pa_nil) (nomark _)) (pss_cons (ps_if (pt_cmpR op_ne (pe_callB (call_reprV hgd hr1) (by rfl) mrepr (by decide +kernel) (pa_cons (pv 5) pa_nil)) (pe_callB (call_reprV hgd hr1) (by rfl) mrepr (by decide +kernel) (pa_cons (pe_lstN (pa_cons pe_str (pa_cons (pv 3) (pa_cons pe_bl pa_nil)))) pa_nil)) (nomark _)) (pss_one (ps_ret pe_bl)) pss_nil)
        (pss_one ps_continue)) pss_nil)
        (pss_cons (ps_if (PW.pt (pw_or (pt_not (pt_val (pe_callB (C8.call_isC IC) (by rfl) T.isi (by decide +kernel) (pa_cons (pv 5) (pa_cons (pe_glob (v := .ref C) (by rfl) gM rfl) pa_nil))))) (pw_or (pt_cmpR op_ne (pe_callB (call_reprV hgd hr1) (by rfl) mrepr (by decide +kernel) (pa_cons (pe_call GPa hr1 rfl gPa kPa bPa .nil pass0 (pa_cons (pv 5) pa_nil)) pa_nil)) (pv 2) (nomark _)) (pw_or1 (pt_cmpR op_ne (pe_callB (cr_lenO GLn hr2 sLn fLn' bLn pass0) (by rfl) T.len PySem.boot_len (pa_cons (pv 5) pa_nil)) (pe_ix ix_tup (pv 0) pe_int (fun _ _ => rfl)) (nomark _)))))) (pss_one (ps_ret pe_bl)) pss_nil)
        (pss_one (ps_if (PW.pt (pw_or (pt_cmpR op_ne (pe_cmpR (op_eqO GEq hr1 sEq' fEq' bEq pass0) (pv 5) (pe_call GHd hr8 rfl gHd kHd bHd .nil pass0 (pa_cons (pv 1) (pa_cons pe_bl pa_nil))) (nomark _)) (pe_cmpR op_eq (pe_callB (call_reprV hgd hr1) (by rfl) mrepr (by decide +kernel) (pa_cons (pv 1) pa_nil)) (pv 2) (nomark _)) (nomark _)) (pw_or (pt_cmpR (op_eqO GEn hr1 sEq' fEq' bEq pass0) (pv 5) (pv 0) (nomark _)) (pw_or (pt_cmpR (op_eqO GEn hr1 sEq' fEq' bEq pass0) (pv 5) (pv 2) (nomark _)) (pw_or1 (pt_cmpR (op_neO GEq hr2 hmo hne sEq' fEq' bEq pass0) (pv 5) (pv 5) (nomark _))))))) (pss_one (ps_ret pe_bl)) pss_nil)))))))
        (pss_one (ps_ret pe_bl)))), ?_⟩
    -- the plan as data
    have pD : plainD (.tuple [d0, d1, d2, d3]) = true := by
      show (plainD d0 && (plainD d1 && (plainD d2 && (plainD d3 && true)))) = true
      rw [f0.pl, f1.pl, f2.pl, f3.pl] <;> rfl
    have pW : wt (.tuple [d0, d1, d2, d3]) ≤ 100000 := by
      show (wt d0 + (wt d1 + (wt d2 + (wt d3 + 0)))) + 1 ≤ 100000
      have := f0.wt
      have := f1.wt
      have := f2.wt
      have := f3.wt
      omega
    have pP : PyData.depth (.tuple [d0, d1, d2, d3]) ≤ 60 := by
      rw [PyData.depth]
      have : PyData.depthAll [d0, d1, d2, d3] ≤ 50 := depth_all.mpr fun d hd => by
        simp only [List.mem_cons, List.not_mem_nil, or_false] at hd
        rcases hd with rfl | rfl | rfl | rfl
        · exact f0.dp
        · exact f1.dp
        · exact f2.dp
        · exact f3.dp
      omega
    obtain ⟨pS, pL⟩ := shw pD pW
    have pR : ∀ {H' : Hp}, Same H H' → Dr K H' (.ref q) (.tuple [d0, d1, d2, d3]) := fun S => .tup (same_seqT S hq) (.cons (h0.keep S) (.cons (h1.keep S) (.cons (h2.keep S) (.cons (h3.keep S) .nil))))
    refine ⟨_, rfl, _, _, rfl, .inr (pR (Same.refl _)), pS, pP, pL, ?_⟩
    refine ⟨_, rfl, q, v0, v1, v2, v3, d0, d1, d2, d3, r, rfl, hq, h0, h1, h2, h3, f3.wt, ht, res, fun due H1 S1 nd hdue => ⟨_, _, rfl, ?_⟩⟩
    refine ⟨by show 2 ≤ sizeLine; decide, fun t nt => ?_⟩
    have sT := same_up (o := .tup [.bl false, .bl true]) nt
    refine ⟨t, rfl, ⟨_, SqT.of upd_same⟩, ?_⟩
    refine for_tup (K := K) (a := t) (xs := [.bl false, .bl true]) (fun i σ H' => ∃ x4 x5 : Option V, σ = [some (.ref q), some (.ref q'), some (.str (PyData.tuple [d0, d1, d2, d3]).shown), some (.ref due), x4, x5] ∧ Same H1 H' ∧ SqT K H' t [.bl false, .bl true])
      ⟨none, none, rfl, sT, SqT.of upd_same⟩ (fun i σ H' _ ⟨_, _, _, _, h⟩ => h) ?_ ?_
    · rintro i y σ H2 hi ⟨x4, x5, rfl, S2, ht2⟩
      obtain ⟨b, rfl⟩ : ∃ b, y = .bl b := by
        rcases i with _ | _ | i
        · cases hi
          exact ⟨_, rfl⟩
        · cases hi
          exact ⟨_, rfl⟩
        · cases hi
      have S02 := S1.trans S2
      have next : ∀ {H' : Hp}, Same H2 H' → Same H1 H' ∧ SqT K H' t [.bl false, .bl true] := fun S => ⟨S2.trans S, same_seqT S ht2⟩
      refine ⟨_, rfl, _, rfl, q, v0, v1, v2, v3, d0, d1, d2, d3, b, r, rfl, same_seqT S02 hq, h0.keep S02, h1.keep S02, h2.keep S02, h3.keep S02, f3.wt, res, fun p er L H3 S3 hL => ?_, fun er x H3 n st la ms S3 hA e0 e1 e2 e3 => ?_⟩
      · have S03 := S02.trans S3
        have S13 := S2.trans S3
        have same : (!decide (V.str (PyData.tuple [d0, d1, d2, d3]).shown = V.str (PyData.tuple [d0, d1, d2, d3]).shown)) = false := by rw [decide_eq_true rfl] <;> rfl
        subst er
        obtain ⟨pp, pw, pdp⟩ := pay_ok res f3.pl
        have bP : plainD (badL p) = true := by
          show (plainD (.str "bad") && (((plainD p && true)) && (true && true))) = true
          rw [pp] <;> rfl
        have bW : wt (badL p) ≤ 100000 := by
          have := f3.wt
          show ((3 + 1) + (((wt p + 0) + 1) + (1 + 0))) + 1 ≤ 100000
          omega
        have bD : (badL p).depth ≤ 60 := by
          have := f3.dp
          show max 0 (max (max p.depth 0 + 1) (max 0 0)) + 1 ≤ 60
          omega
        obtain ⟨bS, bL⟩ := shw bP bW
        refine ⟨_, rfl, _, _, rfl, .inr (pR S03), pS, pP, pL, _, rfl, rfl, _, rfl, ?_⟩
        rw [same]
        refine iteF ?_
        cases hdue with
        | lst dnm hds hda =>
        cases hda with
        | cons hv hda =>
        cases hda
        have hdue3 := same_seqL S13 hds
        refine ⟨_, rfl, Nat.zero_le _, fun p0 np0 nm0 => ?_⟩
        have s0 := same_up (o := .lst []) np0
        refine ⟨due, p0, _, rfl, rfl, same_seqL s0 hdue3, SqL.of upd_same, _, rfl, ?_⟩
        refine iteT ?_
        refine ⟨_, rfl, _, _, rfl, .inr (hL.keep s0), bS, bD, bL, ?_⟩
        refine ⟨_, rfl, by show 3 ≤ sizeLine; decide, fun p1 np1 nm1 => ?_⟩
        have s1 := same_up (o := .lst [.str "bad", .ref due, .bl true]) np1
        have hB : Dr K (upd (upd H3 p0 (.lst [])) p1 (.lst [.str "bad", .ref due, .bl true])) (.ref p1) (badL p) := .lst nm1 (SqL.of upd_same) (.cons (.str _) (.cons (.lst dnm (same_seqL (s0.trans s1) hdue3) (.cons (hv.keep ((S13.trans s0).trans s1)) .nil)) (.cons (.bl _) .nil)))
        refine ⟨_, _, rfl, .inr hB, bS, bD, bL, rfl, _, rfl, ?_⟩
        have same2 : (!decide (V.str (badL p).shown = V.str (badL p).shown)) = false := by rw [decide_eq_true rfl] <;> rfl
        rw [same2]
        refine iteF ?_
        exact ⟨_, _, rfl, next ((S3.trans s0).trans s1)⟩
      · have S03 := S02.trans S3
        have S13 := S2.trans S3
        have same : (!decide (V.str (PyData.tuple [d0, d1, d2, d3]).shown = V.str (PyData.tuple [d0, d1, d2, d3]).shown)) = false := by rw [decide_eq_true rfl] <;> rfl
        subst er
        refine ⟨_, rfl, _, _, rfl, .inr (pR S03), pS, pP, pL, _, rfl, rfl, _, rfl, ?_⟩
        rw [same]
        refine iteF ?_
        cases hdue with
        | lst dnm hds hda =>
        cases hda
        have hdue3 := same_seqL S13 hds
        refine ⟨_, rfl, Nat.zero_le _, fun p0 np0 nm0 => ?_⟩
        have s0 := same_up (o := .lst []) np0
        refine ⟨due, p0, _, rfl, rfl, same_seqL s0 hdue3, SqL.of upd_same, _, rfl, ?_⟩
        refine iteF ?_
        have hA4 := hA.same s0
        have S04 := S03.trans s0
        generalize upd H3 p0 (HO.lst []) = H4 at s0 hA4 S04 ⊢
        obtain ⟨dx, l4, E4, F4, z4, hx4, hM4, _⟩ := id hA4.ob
        refine ⟨_, rfl, x, dx, _, rfl, hx4, _, rfl, ?_⟩
        refine iteF ?_
        refine ⟨_, rfl, x, n, st, la, ms, rfl, hA4, fun q5 l5 nq5 hM5 => ?_⟩
        have s5 := same_up (o := .tup [.int (n : Int), .int (st : Int), .int (la : Int), .ref l5]) nq5
        have hD5 : Dr K (upd H4 q5 (.tup [.int (n : Int), .int (st : Int), .int (la : Int), .ref l5])) (.ref q5) (.tuple [d0, d1, d2, d3]) := by
          rw [e0, e1, e2, e3]
          exact .tup (SqT.of upd_same) (.cons (.int _) (.cons (.int _) (.cons (.int _) (.cons (.tup (same_seqT s5 hM5.tp) (mvs_dr fun p hp => same_seqT s5 (hM5.it p hp))) .nil))))
        refine ⟨_, _, rfl, .inr hD5, pS, pP, pL, _, rfl, rfl, _, rfl, ?_⟩
        rw [same]
        refine iteF ?_
        have hA5 := hA4.same s5
        have S05 := S04.trans s5
        have S25 := (S3.trans s0).trans s5
        generalize upd H4 q5 (.tup [.int (n : Int), .int (st : Int), .int (la : Int), .ref l5]) = H5 at hA5 S05 S25 ⊢
        have hv0 : v0 = .int (n : Int) := by
          rw [e0] at h0
          exact dr_int h0
        have n9 := hA5.ok.n2
        obtain ⟨dx5, l6, E5, F5, z5, hx5, hM6, _⟩ := id hA5.ob
        refine ⟨_, rfl, x, dx5, _, rfl, hx5, x, n, st, la, ms, rfl, hA5, fun H6 S6 => ⟨n, rfl, by omega, ?_⟩⟩
        refine ⟨_, rfl, q, _, 0, v0, rfl, rfl, same_seqT (S05.trans S6) hq, rfl, ?_⟩
        rw [hv0]
        refine ⟨rfl, _, rfl, ?_⟩
        have same3 : (!decide (V.int (n : Int) = V.int (n : Int))) = false := by rw [decide_eq_true rfl] <;> rfl
        rw [same3]
        refine iteF ?_
        have hA6 := hA5.same S6
        have S06 := S05.trans S6
        have S26 := S25.trans S6
        -- the mate
        have hM6' : MvsAt K H6 l' qs' := ⟨same_seqT S06 hM'.tp, fun p hp => same_seqT S06 (hM'.it p hp)⟩
        have dM6 : Dr K H6 (.ref l') (.tuple ((qs'.map (·.2)).map mvD)) := by
          rw [List.map_map]
          exact .tup hM6'.tp (mvs_dr hM6'.it)
        have wM : wt (.tuple ((qs'.map (·.2)).map mvD)) ≤ 400 := by
          have h5 : ∀ l : List Mv, wtAll (l.map mvD) = 5 * l.length := by
            intro l
            induction l with
            | nil => rfl
            | cons m l ih =>
              rw [List.map_cons, wtAll, ih, List.length_cons, wt_mvD]
              omega
          show wtAll _ + 1 ≤ 400
          rw [h5, List.length_map]
          omega
        refine ⟨_, rfl, _, rfl, q', _, _, _, _, _, _, _, _, false, none, rfl, same_seqT S06 hq', .int _, .int _, .int _, dM6, by omega, .mk n' st' la' _ pre' g', (fun p e => nomatch e), fun _ x2 H7 n2 st2 la2 ms2 S7 hB a0 a1 a2 a3 => ?_⟩
        have hA7 := hA6.same S7
        obtain ⟨dx7, l7, E7, F7, z7, hx7, hM7, _⟩ := id hA7.ob
        obtain ⟨dx8, l8, E8, F8, z8, hx8, hM8, _⟩ := id hB.ob
        have S07 := S06.trans S7
        refine ⟨x, dx7, _, .ref C, rfl, hx7, ty_ins hx8, nfC, x, x2, n, st, la, n2, st2, la2, ms, ms2, rfl, hA7, hB, _, rfl, ?_⟩
        have e_n : n2 = n' := by
          have := PyData.int.inj a0
          omega
        have e_st : st2 = st' := by
          have := PyData.int.inj a1
          omega
        have e_la : la2 = la' := by
          have := PyData.int.inj a2
          omega
        have mvD_inj : ∀ {l m : List Mv}, l.map mvD = m.map mvD → l = m := fun {l m} h => by
          have := eqv_mvs l m
          rw [h, eqv_mvs] at this
          exact of_decide_eq_true (this.symm.trans (decide_eq_true rfl))
        have e_ms : ms2.map (·.2) = qs'.map (·.2) := by
          have := PyData.tuple.inj a3
          refine (mvD_inj ?_).symm
          rw [this, List.map_map] <;> rfl
        subst e_n e_st e_la
        -- the mate's repr
        have mD : plainD (plD n2 st2 la2 (qs'.map (·.2))) = true := by
          have pn := pre'.n2
          have ps := pre'.hst
          have pl := pre'.hla
          show (decide (((n2 : Nat) : Int).natAbs < 10 ^ 41) && (decide (((st2 : Nat) : Int).natAbs < 10 ^ 41) && (decide (((la2 : Nat) : Int).natAbs < 10 ^ 41) && (plainAll ((qs'.map (·.2)).map mvD) && true)))) = true
          rw [decide_eq_true (by omega), decide_eq_true (by omega), decide_eq_true (by omega)]
          have : plainAll ((qs'.map (·.2)).map mvD) = true := plainAll_iff.mpr fun d hd => by
            obtain ⟨m, hm, rfl⟩ := List.mem_map.mp hd
            obtain ⟨o1, o2, o3, o4⟩ := pre'.ok m hm
            show (decide (((m.s : Nat) : Int).natAbs < 10 ^ 41) && (([m.c].all fun c => decide (c < 128)) && (decide (((m.t : Nat) : Int).natAbs < 10 ^ 41) && true))) = true
            rw [decide_eq_true (by omega), decide_eq_true (by omega)]
            have : ([m.c].all fun c => decide (c < 128)) = true := by simp; omega
            rw [this] <;> rfl
          rw [this] <;> rfl
        have mW : wt (plD n2 st2 la2 (qs'.map (·.2))) ≤ 100000 := by
          show (1 + (1 + (1 + (wt (.tuple ((qs'.map (·.2)).map mvD)) + 0)))) + 1 ≤ 100000
          omega
        have mP : (plD n2 st2 la2 (qs'.map (·.2))).depth ≤ 60 := by
          have d1 : PyData.depth (.tuple ((qs'.map (·.2)).map mvD)) ≤ 2 := by
            rw [PyData.depth]
            have : PyData.depthAll ((qs'.map (·.2)).map mvD) ≤ 1 := depth_all.mpr fun d hd => by
              obtain ⟨m, hm, rfl⟩ := List.mem_map.mp hd
              exact Nat.le_refl 1
            omega
          show max 0 (max 0 (max 0 (max (PyData.depth (.tuple ((qs'.map (·.2)).map mvD))) 0))) + 1 ≤ 60
          omega
        obtain ⟨mS, mL⟩ := shw mD mW
        have mR : Dr K H7 (.ref q') (plD n2 st2 la2 (qs'.map (·.2))) := .tup (same_seqT S07 hq') (.cons (.int _) (.cons (.int _) (.cons (.int _) (.cons (dM6.keep S7) .nil))))
        refine ⟨_, rfl, _, _, rfl, .inr mR, mS, mP, mL, _, rfl, rfl, rfl, _, rfl, ?_⟩
        have same4 : (!decide (V.bl (id (decide (n = n2 ∧ st = st2 ∧ la = la2 ∧ ms.map (·.2) = ms2.map (·.2)))) = V.bl (decide (V.str (plD n2 st2 la2 (qs'.map (·.2))).shown = V.str (PyData.tuple [d0, d1, d2, d3]).shown)))) = false := by
          have key : (n = n2 ∧ st = st2 ∧ la = la2 ∧ ms.map (·.2) = ms2.map (·.2)) ↔ (plD n2 st2 la2 (qs'.map (·.2))).shown = (PyData.tuple [d0, d1, d2, d3]).shown := by
            have ed : PyData.tuple [d0, d1, d2, d3] = plD n st la (ms.map (·.2)) := by
              rw [e0, e1, e2, e3]
              show _ = PyData.tuple [_, _, _, .tuple ((ms.map (·.2)).map mvD)]
              rw [List.map_map] <;> rfl
            rw [ed]
            have okA := hA7.ok
            have preA : PreM n st la (ms.map (·.2)) := ⟨okA.n1, okA.n2, okA.hst, okA.hla, fun m hm => by
              obtain ⟨r, hr, rfl⟩ := List.mem_map.mp hm
              exact okA.ok r hr, lt_of_asc okA.asc, by rw [List.length_map]; exact okA.few⟩
            rw [e_ms]
            constructor
            · rintro ⟨rfl, rfl, rfl, e⟩
              rw [e]
            · intro e
              obtain ⟨a1, a2, a3, a4⟩ := pl_inj pre' preA e
              exact ⟨a1.symm, a2.symm, a3.symm, a4.symm⟩
          by_cases c : n = n2 ∧ st = st2 ∧ la = la2 ∧ ms.map (·.2) = ms2.map (·.2)
          · have c2 := key.mp c
            rw [decide_eq_true c, c2, decide_eq_true rfl] <;> rfl
          · have c2 : ¬ V.str (plD n2 st2 la2 (qs'.map (·.2))).shown = V.str (PyData.tuple [d0, d1, d2, d3]).shown := fun e => c (key.mpr (V.str.inj e))
            rw [decide_eq_false c, decide_eq_false c2] <;> rfl
        rw [same4]
        refine iteF ?_
        refine ⟨_, rfl, _, rfl, x, dx7, _, .type "tuple", rfl, hx7, ty_tup (same_seqT S07 hq), nfT, x, .ref q, .type "tuple", rfl, tyT (same_seqT S07 hq), kT, false, rfl, _, rfl, ?_⟩
        refine iteF ?_
        refine ⟨_, rfl, _, rfl, x, dx7, _, .type "str", rfl, hx7, ty_str, nfS, x, _, .type "str", rfl, .base (.str _), kS, false, rfl, _, rfl, ?_⟩
        refine iteF ?_
        refine ⟨_, rfl, _, rfl, x, dx7, _, .ref C, rfl, hx7, ty_ins hx7, nfC, x, x, n, st, la, n, st, la, ms, ms, rfl, hA7, hA7, _, rfl, _, rfl, ?_⟩
        rw [decide_eq_true (show n = n ∧ st = st ∧ la = la ∧ ms.map (·.2) = ms.map (·.2) from ⟨rfl, rfl, rfl, rfl⟩)]
        refine iteF ?_
        exact ⟨_, _, rfl, next (S26.trans S7)⟩
    · rintro σ H2 ⟨x4, x5, rfl, S2, ht2⟩
      exact k _ (S1.trans S2)
end
end Vk
set_option Elab.async false
set_option linter.all false
set_option maxRecDepth 100000
set_option maxHeartbeats 4000000
namespace Vk
open PySem PySem.Spec PyProof.Rows L2 Vt PySem.Vx Vs1 ClX
section
variable {P : Program} {w : World} {K : PySem.W.Frag} {mg : Str → Option Value} {base : Heap}
theorem bent_none {f : Addr} {fd : FuncData} {k : Nat} : FnOk P w K mg base CX0 k f fd ["_law_deck_here", "_law_it"] (spBent K 0) :=
  ⟨fun _ _ _ _ h => h.elim, fun _ _ _ _ _ _ _ _ _ _ _ _ _ h => h.elim⟩
theorem ok_bent {f fDr fPi fOd : Addr} {fd fdDr fdPi fdOd : FuncData} (F : Fun K "_law_bent" "_law_bent" sLBent f fd) (T : Txt8 K mg)
    (GDr : FnOk P w K mg base CX0 1 fDr fdDr ["_law_deck_here", "_law_below"] spDraw) (gDr : mg "_law_draw" = some (.ref fDr)) (kDr : PySem.W.keepIn K (.ref fDr) = true) (bDr : Binds K fdDr ["_law_deck_here", "_law_below"] [])
    (GPl : FnOk P w K mg base CX0 2 fPi fdPi ["_law_deck_here", "_law_menu"] (spPickL K)) (gPi : mg "_law_pick" = some (.ref fPi)) (kPi : PySem.W.keepIn K (.ref fPi) = true) (bPi : Binds K fdPi ["_law_deck_here", "_law_menu"] [])
    (GOd : FnOk P w K mg base CX0 3 fOd fdOd ["_law_deck_here"] (spOdd K)) (gOd : mg "_law_odd" = some (.ref fOd)) (kOd : PySem.W.keepIn K (.ref fOd) = true) (bOd : Binds K fdOd ["_law_deck_here"] [])
    (gB : mg "_law_bent" = some (.ref f)) (kB : PySem.W.keepIn K (.ref f) = true) (bB : Binds K fd ["_law_deck_here", "_law_it"] []) : ∀ j : Nat, FnOk P w K mg base CX0 (j + 3) f fd ["_law_deck_here", "_law_it"] (spBent K j)
  | 0 => bent_none
  | j + 1 => bent_step F T GDr gDr kDr bDr GPl gPi kPi bPi GOd gOd kOd bOd gB kB bB j (ok_bent F T GDr gDr kDr bDr GPl gPi kPi bPi GOd gOd kOd bOd gB kB bB j)
end
/-! ## the expression of a letter, beside machines -/
abbrev sXInit : Stmt := inClass (top8 53) 0
abbrev sXEq : Stmt := inClass (top8 53) 1
abbrev sXCheck : Stmt := top8 54
abbrev sXNum : Stmt := top8 55
abbrev sXLet : Stmt := top8 56
structure XCls (K : PySem.W.Frag) (C : Addr) : Prop where
  cl : Cls K C
  a1 : NoAttr K C "kind"
  a2 : NoAttr K C "parts"
  a3 : NoAttr K C "depth"
  a4 : NoAttr K C "size"
  a5 : NoAttr K C "letters"
section
variable {P : Program} {w : World} {K : PySem.W.Frag} {mg : Str → Option Value} {base : Heap}
theorem scNP : FnScope ["kind", "many"] ["kind", "many"] (defScope sXNum) := ⟨rfl, rfl, rfl, by decide +kernel, rfl, by decide +kernel, by decide +kernel⟩
theorem scCE : FnScope ["kind", "parts", "part"] ["kind", "parts"] (defScope sXCheck) := ⟨rfl, rfl, rfl, by decide +kernel, rfl, by decide +kernel, by decide +kernel⟩
theorem scEI : FnScope ["self", "kind", "parts", "rounds", "part"] ["self", "kind", "parts"] (defScope sXInit) := ⟨rfl, rfl, rfl, by decide +kernel, rfl, by decide +kernel, by decide +kernel⟩
theorem scLe : FnScope ["sign"] ["sign"] (defScope sXLet) := ⟨rfl, rfl, rfl, by decide +kernel, rfl, by decide +kernel, by decide +kernel⟩
theorem scXE : FnScope ["self", "other"] ["self", "other"] (defScope sXEq) := ⟨rfl, rfl, rfl, by decide +kernel, rfl, by decide +kernel, by decide +kernel⟩
def spNoP : Sp := fun vs H Q _ => vs = [.str "letter", .int 1] ∧ ∀ H', Same H H' → Q (.bl true) H'
theorem ok_nop {f : Addr} {fd : FuncData} (F : Fun K "is_number_of_parts" "is_number_of_parts" sXNum f fd) : FnOk P w K mg base CX0 1 f fd ["kind", "many"] spNoP := by
  refine F.ok scNP (fun vs H Q E h => ?_) (fun cdv A outer s H vs Q E hr h => ?_)
  · obtain ⟨rfl, _⟩ := h
    rfl
  · obtain ⟨rfl, k⟩ := h
    refine ⟨_, (pss_cons (ps_if (pt_cmpR op_eq (pv 0) pe_str (nomark _)) (pss_one (ps_ret (pe_cmpR op_eq (pv 1) pe_int (nomark _)))) pss_nil)
        (pss_cons (ps_if (pt_cmpR op_in_seq (pv 0) (pe_tup (pa_cons pe_str (pa_cons pe_str pa_nil))) (by rfl)) (pss_one (ps_ret (pe_cmpR op_ge (pv 1) pe_int (nomark _)))) pss_nil)
        (pss_one (ps_ret (pe_cmpR op_eq (pv 1) pe_int (nomark _)))))), ?_⟩
    refine ⟨_, rfl, rfl, _, rfl, ?_⟩
    refine iteF ?_
    refine ⟨_, rfl, by show 2 ≤ sizeLine; decide, fun p np => ?_⟩
    refine ⟨p, _, rfl, .inr (SqT.of upd_same), rfl, rfl, _, rfl, ?_⟩
    refine iteF ?_
    exact ⟨_, rfl, rfl, k _ (same_up np)⟩
def spXCheck (K : PySem.W.Frag) : Sp := fun vs H Q _ => ∃ (p : Addr) (c : Nat), vs = [.str "letter", .ref p] ∧ SqT K H p [.str (sg c)] ∧ 97 ≤ c ∧ c ≤ 122 ∧ ∀ H', Same H H' → Q .non H'
theorem ok_xcheck {f fNP fLe aK : Addr} {fd fdNP fdLe : FuncData} (F : Fun K "check_expression" "check_expression" sXCheck f fd) (T : Txt8 K mg) {C : Addr} (gX : mg "Expression" = some (.ref C))
    (gK : mg "KINDS" = some (.ref aK)) (hK : ∀ H : Hp, SqT K H aK [.str "one", .str "letter", .str "row", .str "choice", .str "loop", .str "some", .str "maybe"])
    (GNP : FnOk P w K mg base CX0 1 fNP fdNP ["kind", "many"] spNoP) (gNP : mg "is_number_of_parts" = some (.ref fNP)) (kNP : PySem.W.keepIn K (.ref fNP) = true) (bNP : Binds K fdNP ["kind", "many"] [])
    (GLe : FnOk P w K mg base CX0 1 fLe fdLe ["thing"] (spLetD K)) (gLe : mg "is_letter" = some (.ref fLe)) (kLe : PySem.W.keepIn K (.ref fLe) = true) (bLe : Binds K fdLe ["thing"] []) : FnOk P w K mg base CX0 2 f fd ["kind", "parts"] (spXCheck K) := by
  refine F.ok scCE (fun vs H Q E h => ?_) (fun cdv A outer s H vs Q E hr h => ?_)
  · obtain ⟨p, c, rfl, _⟩ := h
    rfl
  · obtain ⟨p, c, rfl, hp, c1, c2, k⟩ := h
    refine ⟨_, (pss_cons (ps_if (pt_cmpR op_notIn_seq (pv 0) (pe_glob (v := .ref aK) (by rfl) gK rfl) (by rfl)) (pss_one ps_never) pss_nil)
        (pss_cons (ps_if (PW.pt (pw_or (pt_not (pt_val (pe_callB call_isi (by rfl) T.isi (by decide +kernel) (pa_cons (pv 1) (pa_cons (pe_bltn (v := .ty "tuple") (by rfl) T.tup (by decide +kernel) rfl) pa_nil))))) (pw_or1 (pt_not (pt_val (pe_call GNP hr rfl gNP kNP bNP .nil pass0 (pa_cons (pv 0) (pa_cons (pe_callB call_len (by rfl) T.len PySem.boot_len (pa_cons (pv 1) pa_nil)) pa_nil)))))))) (pss_one ps_never) pss_nil)
        (pss_one (ps_for PassesOwn.never rfl (pi_tup (pv 1)) (pg_name (i := 2) scCE.nd rfl (.inl rfl)) (pss_cons (ps_if (PW.pt (pw_and (pt_cmpR op_eq (pv 0) pe_str (nomark _)) (pw_and1 (pt_not (pt_val (pe_call GLe hr rfl gLe kLe bLe .nil pass0 (pa_cons (pv 2) pa_nil))))))) (pss_one ps_never) pss_nil)
        (pss_one (ps_if (PW.pt (pw_and (pt_cmpR op_ne (pv 0) pe_str (nomark _)) (pw_and1 (pt_not (pt_val (pe_callB call_isi (by rfl) T.isi (by decide +kernel) (pa_cons (pv 2) (pa_cons (pe_glob (v := .ref C) (by rfl) gX rfl) pa_nil)))))))) (pss_one ps_never) pss_nil))))))), ?_⟩
    refine ⟨_, rfl, aK, _, rfl, .inr (hK _), rfl, rfl, _, rfl, ?_⟩
    refine iteF ?_
    refine ⟨_, rfl, _, _, _, _, true, rfl, .ty "tuple", tyT hp, rfl, _, rfl, ?_⟩
    refine iteF ?_
    refine ⟨_, rfl, _, rfl, _, 1, rfl, .inr ⟨_, hp, rfl⟩, rfl, fun H1 S1 => ⟨_, rfl, ?_⟩⟩
    refine iteF ?_
    refine ⟨_, rfl, p, rfl, ⟨_, same_seqT S1 hp⟩, ?_⟩
    refine for_tup (K := K) (a := p) (xs := [.str (sg c)]) (fun i σ H' => ∃ v : Option V, σ = [some (.str "letter"), some (.ref p), v] ∧ H' = H1) ⟨none, rfl, rfl⟩ (fun i σ H' _ ⟨_, _, e⟩ => by rw [e]; exact same_seqT S1 hp) ?_ ?_
    · rintro i y σ H' hi ⟨v, rfl, rfl⟩
      obtain rfl : y = .str (sg c) := by
        rcases i with _ | i
        · cases hi
          rfl
        · cases hi
      refine ⟨_, rfl, rfl, _, rfl, ?_⟩
      refine iteT ?_
      refine ⟨_, rfl, .str (sg c), .str (sg c), rfl, .str _, by show 1 + 1 ≤ 1000000; decide, _, rfl, ?_⟩
      have e : isLet (.str (sg c)) = true := by
        show (ltR (sg c)).isSome = true
        rw [ltR_sg, decide_eq_true c1, decide_eq_true c2] <;> rfl
      rw [e]
      refine iteF ?_
      refine ⟨_, rfl, rfl, _, rfl, ?_⟩
      refine iteF ?_
      refine iteF ?_
      exact ⟨_, rfl, rfl⟩
    · rintro σ H' ⟨v, rfl, rfl⟩
      exact k _ S1
def spXInit (K : PySem.W.Frag) (C : Addr) : Sp := fun vs H Q _ => ∃ (a dx p : Addr) (c : Nat), vs = [.ref a, .str "letter", .ref p] ∧ H a = some (.ins C dx []) ∧ SqT K H p [.str (sg c)] ∧ 97 ≤ c ∧ c ≤ 122 ∧
  ∀ H' fs, (∀ b o, H b = some o → b ≠ a → H' b = some o) → H' a = some (.ins C dx fs) → Q .non H'
theorem ok_xinit {x qual : Str} {pms : Arguments} {dvs : List V} {kws : List (Str × V)} {f fCh C : Addr} {fd fdCh : FuncData} (F : FunD K "__init__" "Expression.__init__" (defArgs sXInit) (defBody sXInit) (defScope sXInit) dvs kws f fd) (M : XCls K C)
    (GCh : FnOk P w K mg base CX0 2 fCh fdCh ["kind", "parts"] (spXCheck K)) (gCh : mg "check_expression" = some (.ref fCh)) (kCh : PySem.W.keepIn K (.ref fCh) = true) (bCh : Binds K fdCh ["kind", "parts"] []) : FnOk P w K mg base CX0 3 f fd ["self", "kind", "parts"] (spXInit K C) := by
  refine F.ok scEI (fun vs H Q E h => ?_) (fun cdv A outer s H vs Q E hr h => ?_)
  · obtain ⟨a, dx, p, c, rfl, _⟩ := h
    rfl
  · obtain ⟨a, dx, p, c, rfl, ha, hp, c1, c2, k⟩ := h
    refine ⟨_, (pss_cons (ps_expr (pe_call GCh hr rfl gCh kCh bCh .nil pass0 (pa_cons (pv 1) (pa_cons (pv 2) pa_nil))))
      (pss_cons (ps_fld (pv 0) (pv 1) rfl) (pss_cons (ps_fld (pv 0) (pv 2) rfl) (pss_one (ps_if (pt_cmpR op_eq (pv 1) pe_str (nomark _))
        (pss_cons (ps_fld (pv 0) pe_int rfl) (pss_cons (ps_fld (pv 0) pe_int rfl) (pss_one (ps_fld (pv 0) (pe_ix ix_tup (pv 2) pe_int (fun _ _ => rfl)) rfl))))
        (pss_cons ps_never (pss_cons ps_never (pss_cons ps_never (pss_one ps_never))))))))), ?_⟩
    refine ⟨_, rfl, _, rfl, p, c, rfl, hp, c1, c2, fun H1 S1 => ?_⟩
    have ha1 := S1 _ _ ha
    refine ⟨_, rfl, _, rfl, a, C, dx, _, rfl, ha1, M.cl, M.a1, (by show 0 < 1000; decide), ?_⟩
    refine ⟨_, rfl, _, rfl, a, C, dx, _, rfl, upd_same, M.cl, M.a2, (by show 1 < 1000; decide), ?_⟩
    refine ⟨_, rfl, rfl, _, rfl, ?_⟩
    refine iteT ?_
    refine ⟨_, rfl, a, C, dx, _, rfl, upd_same, M.cl, M.a3, (by show 2 < 1000; decide), ?_⟩
    refine ⟨_, rfl, a, C, dx, _, rfl, upd_same, M.cl, M.a4, (by show 3 < 1000; decide), ?_⟩
    refine ⟨_, rfl, p, _, 0, .str (sg c), rfl, rfl, seqT_ins (seqT_ins (seqT_ins (seqT_ins (same_seqT S1 hp) ha1) upd_same) upd_same) upd_same, rfl, _, rfl, a, C, dx, _, rfl, upd_same, M.cl, M.a5, (by show 4 < 1000; decide), ?_⟩
    refine k _ _ (fun b o z nb => ?_) upd_same
    rw [upd_ne nb, upd_ne nb, upd_ne nb, upd_ne nb, upd_ne nb]
    exact S1 _ _ z
def spXLet (K : PySem.W.Frag) (C : Addr) : Sp := fun vs H Q _ => ∃ c : Nat, vs = [.str (sg c)] ∧ 97 ≤ c ∧ c ≤ 122 ∧ ∀ x dx fs H', Same H H' → H x = none → H' x = some (.ins C dx fs) → Q (.ref x) H'
theorem ok_xlet {f fXI C : Addr} {fd fdXI : FuncData} (F : Fun K "letter" "letter" sXLet f fd) (gX : mg "Expression" = some (.ref C)) (MKX : Mk K C fXI) (bXI : Binds K fdXI ["self", "kind", "parts"] [])
    (GXI : FnOk P w K mg base CX0 3 fXI fdXI ["self", "kind", "parts"] (spXInit K C)) : FnOk P w K mg base CX0 5 f fd ["sign"] (spXLet K C) := by
  refine F.ok scLe (fun vs H Q E h => ?_) (fun cdv A outer s H vs Q E hr h => ?_)
  · obtain ⟨c, rfl, _⟩ := h
    rfl
  · obtain ⟨c, rfl, c1, c2, k⟩ := h
    refine ⟨_, (pss_one (ps_ret (pe_make MKX GXI hr rfl gX bXI .nil pass0 (pa_cons pe_str (pa_cons (pe_tup (pa_cons (pv 0) pa_nil)) pa_nil))))), ?_⟩
    refine ⟨_, rfl, by show 1 ≤ sizeLine; decide, fun p np x dx nx nd ne => ?_⟩
    have s1 := same_up (o := .tup [.str (sg c)]) np
    have S3 : Same (upd H p (.tup [.str (sg c)])) (upd (upd (upd H p (.tup [.str (sg c)])) dx (.own x)) x (.ins C dx [])) := fun b o z => by
      rw [upd_ne (ne_of_none z nx), upd_ne (ne_of_none z nd)]
      exact z
    refine ⟨x, dx, p, c, rfl, upd_same, same_seqT S3 (SqT.of upd_same), c1, c2, fun H' fs keep hx => ⟨rfl, ?_⟩⟩
    exact k x dx fs H' (fun b o z => keep b o (S3 _ _ (s1 _ _ z)) (ne_of_none (s1 _ _ z) nx)) (none_back s1 nx) hx
/-- an expression against what is none -/
def spXEq (K : PySem.W.Frag) (C : Addr) : Sp := fun vs H Q _ => ∃ (a : Addr) (y : V) (t : Value), vs = [.ref a, y] ∧ TyX K H y t ∧ PySem.W.kitOne K t (.ref C) = some false ∧ Q (.bl false) H
theorem ok_xeq {f C : Addr} {fd : FuncData} (F : Fun K "__eq__" "Expression.__eq__" sXEq f fd) (T : Txt8 K mg) (gX : mg "Expression" = some (.ref C)) : FnOk P w K mg base CX0 1 f fd ["self", "other"] (spXEq K C) := by
  refine F.ok scXE (fun vs H Q E h => ?_) (fun cdv A outer s H vs Q E hr h => ?_)
  · obtain ⟨a, y, t, rfl, _⟩ := h
    rfl
  · obtain ⟨a, y, t, rfl, ty, hk, k⟩ := h
    refine ⟨_, (pss_one (ps_ret (pe_and (pe_callB call_isi (by rfl) T.isi (by decide +kernel) (pa_cons (pv 1) (pa_cons (pe_glob (v := .ref C) (by rfl) gX rfl) pa_nil))) (pe_one (pe_cmpR op_eq (pe_callTy call_str_int (by rfl) T.str (by decide +kernel) (pa_cons (pv 0) pa_nil)) (pe_callTy call_str_int (by rfl) T.str (by decide +kernel) (pa_cons (pv 1) pa_nil)) (nomark _)))))), ?_⟩
    refine ⟨_, rfl, _, _, t, .ref C, false, rfl, .own C, ty, hk, _, rfl, ?_⟩
    exact iteF k
end
end Vk
set_option Elab.async false
set_option linter.all false
set_option maxRecDepth 100000
set_option maxHeartbeats 4000000
namespace Vk
open PySem PySem.Spec PyProof.Rows L2 Vt PySem.Vx Vs1 ClX
abbrev sLaw2 : Stmt := top8 74
theorem goodG_of {n st la : Nat} {ms : List (Addr × Mv)} (o : OkM n st la ms) : GoodG n st la (ms.map (·.2)) := by
  refine ⟨?_, ?_, ?_, ?_⟩
  · rw [List.map_map]
    exact o.e0
  · rw [List.map_map]
    exact o.e2
  · rw [List.map_map]
    exact o.fw
  · rw [List.map_map]
    exact o.bw
theorem preM_of {n st la : Nat} {ms : List (Addr × Mv)} (o : OkM n st la ms) : PreM n st la (ms.map (·.2)) := ⟨o.n1, o.n2, o.hst, o.hla, fun m hm => by
  obtain ⟨r, hr, rfl⟩ := List.mem_map.mp hm
  exact o.ok r hr, lt_of_asc o.asc, by rw [List.length_map]; exact o.few⟩
theorem wt_mvs : ∀ l : List Mv, wtAll (l.map mvD) = 5 * l.length
  | [] => rfl
  | m :: l => by
    rw [List.map_cons, wtAll, wt_mvs l, List.length_cons, wt_mvD]
    omega
/-- how great the parts of a plan may be after so many turns -/
def wtT : Nat → Nat
  | 0 => 46
  | i + 1 => 2 * wtT i + 150
structure FitT (i : Nat) (d : PyData) : Prop where
  pl : plB (10 ^ 40 + 1000 * i) d = true
  wt : wt d ≤ wtT i
  dp : d.depth ≤ 2 + i
  top : topN d ≤ 9 + 2 * i
theorem FitT.up {i : Nat} {d : PyData} (f : FitT i d) : FitT (i + 1) d := ⟨plB_mono (by omega) f.pl, by have := f.wt; show _ ≤ 2 * wtT i + 150; omega, by have := f.dp; omega, by have := f.top; omega⟩
theorem FitT.bn {i : Nat} {d e : PyData} (f : FitT i d) (b : Bn (10 ^ 40 + 1000 * i) d e) : FitT (i + 1) e := by
  refine ⟨plB_mono (by omega) b.pl, ?_, ?_, ?_⟩
  · have := f.wt
    have := b.wt
    show _ ≤ 2 * wtT i + 150
    omega
  · have := f.dp
    have := b.dp
    omega
  · have := f.top
    have := b.top
    omega
theorem wtT_le {i : Nat} (h : i ≤ 3) : wtT i ≤ 1418 := by
  rcases i with _ | _ | _ | _ | i
  · decide
  · decide
  · decide
  · decide
  · omega
theorem FitT.fit {i : Nat} {d : PyData} (f : FitT i d) (h : i ≤ 3) : Fit d := ⟨plB_plain (plB_mono (by omega) f.pl), Nat.le_trans f.wt (Nat.le_trans (wtT_le h) (by decide)), by have := f.dp; omega⟩
theorem fit_int {i : Int} (h : i.natAbs < 1000) : FitT 0 (.int i) := ⟨decide_eq_true (by omega), by show 1 ≤ 46; decide, Nat.zero_le _, Nat.zero_le _⟩
theorem fit_mvs {n : Nat} (hn : n ≤ 999) {ms : List Mv} (ok : ∀ m ∈ ms, OkMv n m) (few : ms.length ≤ 9) : FitT 0 (.tuple (ms.map mvD)) := by
  refine ⟨?_, ?_, ?_, ?_⟩
  · show plBs _ (ms.map mvD) = true
    refine plBs_iff.mpr fun d hd => ?_
    obtain ⟨m, hm, rfl⟩ := List.mem_map.mp hd
    obtain ⟨o1, o2, o3, o4⟩ := ok m hm
    show (decide (((m.s : Nat) : Int).natAbs < 10 ^ 40 + 1000 * 0) && (([m.c].all fun c => decide (c < 128)) && (decide (((m.t : Nat) : Int).natAbs < 10 ^ 40 + 1000 * 0) && true))) = true
    rw [decide_eq_true (by omega), decide_eq_true (by omega)]
    have : ([m.c].all fun c => decide (c < 128)) = true := by simp; omega
    rw [this] <;> rfl
  · show wtAll (ms.map mvD) + 1 ≤ 46
    rw [wt_mvs]
    omega
  · rw [PyData.depth]
    have : PyData.depthAll (ms.map mvD) ≤ 1 := depth_all.mpr fun d hd => by
      obtain ⟨m, hm, rfl⟩ := List.mem_map.mp hd
      exact Nat.le_refl 1
    omega
  · show (ms.map mvD).length ≤ 9 + 2 * 0
    rw [List.length_map]
    exact few
theorem DrAll.set {K : PySem.W.Frag} {H : Hp} : ∀ {vs : List V} {ds : List PyData}, DrAll K H vs ds → ∀ {i : Nat} {v : V} {y : PyData}, Dr K H v y → DrAll K H (vs.set i v) (ds.set i y)
  | _, _, .nil, i, v, y, h => .nil
  | _, _, .cons h1 h2, 0, v, y, h => .cons h h2
  | _, _, .cons h1 h2, i + 1, v, y, h => .cons h1 (h2.set h)
theorem cut_fresh {L : Addr} {H : Hp} {o : HO} (n : H L = none) : Same H (cutH L L L (upd H L o)) := fun b u z => by
  have h : b ≠ L := ne_of_none z n
  exact cut_at (by rw [upd_ne h]; exact z) h h h
section
variable {P : Program} {w : World} {K : PySem.W.Frag} {mg : Str → Option Value} {base : Heap}
theorem bent_use {k : Nat} {d g b : Addr} {m : Int} {v : V} {x : PyData} {B : Nat} {H : Hp} {Q : VK} {E : XK} (D : DeckAt H d g m) (hb : Has H b) (n1 : b ≠ d) (n2 : b ≠ g) (h1 : m + 4 * ((k : Int) + 1) < 900000000) (hx : Dr K (cutH d g b H) v x) (b1 : 10 ^ 40 ≤ B) (b2 : B + 1000 ≤ 10 ^ 41) (hp : plB B x = true) (hw : wt x ≤ 100000) (hd : x.depth ≤ k)
    (q : ∀ (v' : V) (y : PyData) (H' : Hp), Bn B x y → Dr K (cutH d g b H') v' y → DeckAt H' d g (m + 4 * ((k : Int) + 1)) → But d g H H' → Q v' H') : spBent K (k + 1) [.ref d, v] H Q E := ⟨d, g, b, m, v, x, B, rfl, D, hb, n1, n2, h1, hx, b1, b2, hp, hw, hd, q⟩
def spLaw2 (K : PySem.W.Frag) : Sp := fun vs H Q _ => ∃ (a : Addr) (ns : List Int), vs = [.ref a] ∧ SqL K H a (ns.map V.int) ∧ ns.length ≤ 63 ∧ ∀ H', Q (.bl true) H'
theorem sc2 : FnScope ["_law_script", "_law_deck_here", "_law_go", "_law_plan", "_law_bent_here", "_law_turn", "_law_at", "_law_bare", "_law_some", "_law_ring_now"] ["_law_script"] (defScope sLaw2) := ⟨rfl, rfl, rfl, by decide +kernel, rfl, by decide +kernel, by decide +kernel⟩
end
/-! ## the plans by hand, as data -/
def mvX (s : Int) (a : Str) (t : Int) : PyData := .tuple [.int s, .str a, .int t]
def bareD : PyData := .tuple [.int 1, .int 0, .int 0, .tuple []]
def plansD : List PyData := [bareD, .tuple [.bool true, .int 0, .int 0, .tuple []], .tuple [.int 0, .int 0, .int 0, .tuple []], .tuple [.int 1000, .int 0, .int 0, .tuple []], .tuple [.int 2, .int 0, .int 0, .tuple []], .tuple [.int 2, .int 2, .int 5, .list []], .tuple [.int 2, .int 0, .int 2, .none],
  .tuple [.int 2, .int 0, .int 1, .tuple [mvX 0 "a" 1, mvX 0 "a" 0]], .tuple [.int 2, .int 0, .int 1, .tuple [mvX 0 "a" 0, mvX 0 "a" 1]], .tuple [.int 2, .int 0, .int 1, .tuple [mvX 0 "a" 1, mvX 1 "a" 1]],
  .tuple [.int 3, .int 0, .int 1, .tuple [mvX 0 "a" 1, mvX 1 "a" 1, mvX 1 "b" 0, mvX 1 "b" 1]], .tuple [.int 3, .int 0, .int 1, .tuple [mvX 0 "a" 1, mvX 1 "a" 1, mvX 1 "b" 0]],
  .tuple [.int 3, .int 0, .int 1, .tuple [mvX 0 "a" 1, mvX 1 "b" 2]], .tuple [.int 3, .int 0, .int 1, .tuple [mvX 0 "a" 1, mvX 2 "b" 1]]]
def fitB (d : PyData) : Bool := plainD d && (decide (wt d ≤ 4000) && decide (d.depth ≤ 50))
def okPl : PyData → Bool
  | .tuple [d0, d1, d2, d3] => fitB d0 && (fitB d1 && (fitB d2 && (fitB d3 && decide (topN d3 ≤ 60))))
  | _ => false
theorem fit_of {d : PyData} (h : fitB d = true) : Fit d := by
  unfold fitB at h
  rw [Bool.and_eq_true, Bool.and_eq_true, decide_eq_true_eq, decide_eq_true_eq] at h
  exact ⟨h.1, h.2.1, h.2.2⟩
theorem okPl_of {d : PyData} (h : okPl d = true) : ∃ d0 d1 d2 d3, d = .tuple [d0, d1, d2, d3] ∧ Fit d0 ∧ Fit d1 ∧ Fit d2 ∧ Fit d3 ∧ topN d3 ≤ 60 := by
  unfold okPl at h
  split at h
  · rename_i d0 d1 d2 d3
    simp only [Bool.and_eq_true, decide_eq_true_eq] at h
    exact ⟨d0, d1, d2, d3, rfl, fit_of h.1, fit_of h.2.1, fit_of h.2.2.1, fit_of h.2.2.2.1, h.2.2.2.2⟩
  · cases h
theorem plans_ok : plansD.all okPl = true := by decide +kernel
theorem bare_ok : okMB 1 0 0 [] = true := by decide +kernel
theorem ring_ok : okMB 1 0 0 [⟨0, 97, 0⟩] = true := by decide +kernel
theorem dr4 {K : PySem.W.Frag} {H : Hp} {v : V} {d0 d1 d2 d3 : PyData} (h : Dr K H v (.tuple [d0, d1, d2, d3])) : ∃ (q : Addr) (v0 v1 v2 v3 : V), v = .ref q ∧ SqT K H q [v0, v1, v2, v3] ∧ Dr K H v0 d0 ∧ Dr K H v1 d1 ∧ Dr K H v2 d2 ∧ Dr K H v3 d3 := by
  obtain ⟨q, xs, rfl, hq, ha⟩ := dr_tup h
  cases ha with
  | cons h0 ha =>
  cases ha with
  | cons h1 ha =>
  cases ha with
  | cons h2 ha =>
  cases ha with
  | cons h3 ha =>
  cases ha
  exact ⟨_, _, _, _, _, rfl, hq, h0, h1, h2, h3⟩
theorem dr_l1 {K : PySem.W.Frag} {H : Hp} {v : V} {z : Str} (h : Dr K H v (.list [.str z])) : ∃ p, v = .ref p ∧ SqL K H p [.str z] := by
  cases h with
  | lst nm hs ha =>
  cases ha with
  | cons h1 ha =>
  cases ha
  cases h1
  exact ⟨_, rfl, hs⟩
theorem dr_cutL {K : PySem.W.Frag} {H : Hp} {p D : Addr} {z : Str} (h : Dr K H (.ref p) (.list [.str z])) (n : p ≠ D) : Dr K (cutH D D D H) (.ref p) (.list [.str z]) := by
  cases h with
  | lst nm hs ha =>
  cases ha with
  | cons h1 ha =>
  cases ha
  cases h1
  refine .lst nm ?_ (.cons (.str _) .nil)
  rcases hs with (h | ⟨u, h⟩) | h
  · exact .inl (.inl (cut_at h n n n))
  · exact .inl (.inr ⟨u, cut_at h n n n⟩)
  · exact .inr h
abbrev N2 : List Str := ["_law_script", "_law_deck_here", "_law_go", "_law_plan", "_law_bent_here", "_law_turn", "_law_at", "_law_bare", "_law_some", "_law_ring_now"]
section
variable {P : Program} {w : World} {K : PySem.W.Frag} {mg : Str → Option Value} {base : Heap}
/-- the law's last four statements -/
theorem law_c {f C CX fWr fRt fI fLt fEq fXe : Addr} {fdWr fdRt fdI fdLt fdEq fdXe : FuncData}
(T : Txt8 K mg)
    (GWr : FnOk P w K mg base CX0 4 fWr fdWr ["_law_plan"] (spWrong K)) (gWr : mg "_law_wrong" = some (.ref fWr)) (kWr : PySem.W.keepIn K (.ref fWr) = true) (bWr : Binds K fdWr ["_law_plan"] [])
    (GRt : FnG P w K mg base CX0 9 fRt fdRt ["_law_plan", "_law_mate"] (spRight K)) (gRt : mg "_law_right" = some (.ref fRt)) (kRt : PySem.W.keepIn K (.ref fRt) = true) (bRt : Binds K fdRt ["_law_plan", "_law_mate"] [])
    (gM : mg "Machine" = some (.ref C)) (MK : Mk K C fI) (bI : Binds K fdI ["self", "size", "first", "last", "moves"] []) (GI : FnOk P w K mg base CX0 6 fI fdI ["self", "size", "first", "last", "moves"] (spInit K C))
    (GLt : FnOk P w K mg base CX0 5 fLt fdLt ["sign"] (spXLet K CX)) (gLt : mg "letter" = some (.ref fLt)) (kLt : PySem.W.keepIn K (.ref fLt) = true) (bLt : Binds K fdLt ["sign"] [])
    (GEn : FnOk P w K mg base CX0 1 fEq fdEq ["self", "other"] (spEqN K C)) (sEq : PySem.W.findIn K (.ref C) "__eq__" = some (some (.ref fEq))) (nEq : PySem.W.isFn K (.ref fEq) = true) (bEq : Binds K fdEq ["self", "other"] [])
    (GXe : FnOk P w K mg base CX0 1 fXe fdXe ["self", "other"] (spXEq K CX)) (sXe : PySem.W.findIn K (.ref CX) "__eq__" = some (some (.ref fXe))) (nXe : PySem.W.isFn K (.ref fXe) = true) (bXe : Binds K fdXe ["self", "other"] [])
    (hmo : PySem.W.mroIn K C (.type "object") = some true) (hne : PySem.W.findIn K (.ref C) "__ne__" = some (some (.builtin "object.__ne__")))
    (nfX : PySem.W.notFirst K C (.ref CX) = true) (nfM : PySem.W.notFirst K CX (.ref C) = true) (kXM : PySem.W.kitOne K (.ref CX) (.ref C) = some false) (kMX : PySem.W.kitOne K (.ref C) (.ref CX) = some false) (IC : C8.InsC K C) (IX : C8.InsC K CX)
    {cdv : Value} {A : Around} {outer : List Env} {s : Shared} {H0 : Hp} {E : XK} {Q : VK} (hgd : A.guards = some []) (hr : Room 9 (A.deeper (envOfC "law" (defScope sLaw2) s.heap.objs.size f cdv))) (k : ∀ H', Q (.bl true) H') :
    ∃ t, PSs (cxOf CX0 P w K mg base N2 "law" (defScope sLaw2) f cdv A outer s H0 E).nox ((defBody sLaw2).drop 9) t ∧ ∀ (x0 x1 x2 x3 x4 x5 x6 x9 : Option V) (p2 L : Addr) (ws : List V) (H : Hp), H L = some (.lst ws) → DrAll K (cutH L L L H) ws plansD → Dr K (cutH L L L H) (.ref p2) bareD →
      t { nx := fun _ H' => Q .non H', rt := Q } [x0, x1, x2, x3, x4, x5, x6, some (.ref p2), some (.ref L), x9] H := by
  have hr1 : Room 1 _ := hr.mono (by decide)
  have hr2 : Room 2 _ := hr.mono (by decide)
  have hr4 : Room 3 _ := hr.mono (by decide)
  have hr4w : Room 4 _ := hr.mono (by decide)
  have hr5 : Room 5 _ := hr.mono (by decide)
  have hr7 : Room 7 _ := hr.mono (by decide)
  have hr9 : Room 9 _ := hr
  refine ⟨_, (pss_cons (ps_if (pt_cmpR (op_neD hr1.units) (pe_lc (own := [("_law_plan", 3)]) (g := (gName 3)) (by rfl) sc2.nd (pi_list (pe_slice sl_list (pv 8) (po_some pe_int) (po_some pe_int))) (blkOk_by (own := [("_law_plan", 3)]) (N := ["_law_script", "_law_deck_here", "_law_go", "_law_plan", "_law_bent_here", "_law_turn", "_law_at", "_law_bare", "_law_some", "_law_ring_now"]) (sc := defScope sLaw2) (by decide +kernel)) (fun _ _ _ _ _ => (pg_name (i := 3) sc2.nd rfl (.inl rfl))) (fun _ _ _ _ _ => pts_nil) (fun _ _ _ _ _ => (pe_call GWr hr4w rfl gWr kWr bWr .nil pass0 (pa_cons (pv 3) pa_nil)))) (pe_lstN (pa_cons (pe_lstN (pa_cons pe_str pa_nil)) (pa_cons (pe_lstN (pa_cons pe_str pa_nil)) pa_nil))) (nomark _)) (pss_one (ps_ret pe_bl)) pss_nil)
        (pss_cons (ps_set (i := 9) sc2.nd rfl (.inl rfl) (pe_make MK GI hr7 rfl gM bI .nil pass0 (pa_cons pe_int (pa_cons pe_int (pa_cons pe_int (pa_cons (pe_tup (pa_cons (pe_tup (pa_cons pe_int (pa_cons pe_str (pa_cons pe_int pa_nil)))) pa_nil)) pa_nil))))))
        (pss_cons (ps_if (PW.pt (pw_or (pt_cmpR (op_eqO GEn hr1 sEq nEq bEq pass0) (pv 9) (pe_call GLt hr5 rfl gLt kLt bLt .nil pass0 (pa_cons pe_str pa_nil)) (nomark _)) (pw_or (pt_cmpR (op_eqO GXe hr1 sXe nXe bXe pass0) (pe_call GLt hr5 rfl gLt kLt bLt .nil pass0 (pa_cons pe_str pa_nil)) (pv 9) (nomark _)) (pw_or1 (pt_not (pt_cmpR (op_neO GEn hr2 hmo hne sEq nEq bEq pass0) (pv 9) (pe_call GLt hr5 rfl gLt kLt bLt .nil pass0 (pa_cons pe_str pa_nil)) (nomark _))))))) (pss_one (ps_ret pe_bl)) pss_nil)
        (pss_one (ps_ret (pe_cmpR (op_eqD hr1.units) (pe_lc (own := [("_law_plan", 3)]) (g := (gName 3)) (by rfl) sc2.nd (pi_list (pv 8)) (blkOk_by (own := [("_law_plan", 3)]) (N := ["_law_script", "_law_deck_here", "_law_go", "_law_plan", "_law_bent_here", "_law_turn", "_law_at", "_law_bare", "_law_some", "_law_ring_now"]) (sc := defScope sLaw2) (by decide +kernel)) (fun _ _ _ _ _ => (pg_name (i := 3) sc2.nd rfl (.inl rfl))) (fun _ _ _ _ _ => (pts_one (pt_not (pt_val (pe_callG GRt hgd hr rfl gRt kRt bRt pass0 (pa_cons (pv 3) (pa_cons (pv 7) pa_nil))))))) (fun _ _ _ _ _ => (pv 3))) (pe_lstN pa_nil) (nomark _))))))), fun x0 x1 x2 x3 x4 x5 x6 x9 p2 L ws H hL hd hb => ?_⟩
  have hd' := hd
  -- the two that are told by name
  obtain ⟨w5, hw5, r5⟩ := hd.at (i := 5) (d := .tuple [.int 2, .int 2, .int 5, .list []]) rfl
  obtain ⟨w6, hw6, r6⟩ := hd.at (i := 6) (d := .tuple [.int 2, .int 0, .int 2, .none]) rfl
  have lw : ws.length = 14 := hd.length
  have cw : cutV ws (some 5) (some 7) = [w5, w6] := by
    show (ws.drop (HT.sIx ws.length 0 (some 5))).take (HT.sIx ws.length ws.length (some 7) - HT.sIx ws.length 0 (some 5)) = _
    rw [lw]
    show (ws.drop 5).take 2 = _
    apply List.ext_getElem?
    intro i
    rw [List.getElem?_take]
    rcases i with _ | _ | i
    · rw [if_pos (by decide), List.getElem?_drop]
      exact hw5
    · rw [if_pos (by decide), List.getElem?_drop]
      exact hw6
    · rw [if_neg (by omega)]
      rfl
  refine ⟨_, rfl, 5, rfl, 7, rfl, L, ws, rfl, SqL.of hL, fun q nq => ?_⟩
  rw [cw]
  refine ⟨q, rfl, ⟨_, SqL.of upd_same⟩, fun D nD => ?_⟩
  have sq := same_up (o := .lst [w5, w6]) nq
  have hq : upd H q (.lst [w5, w6]) q = some (.lst [w5, w6]) := upd_same
  generalize upd H q (.lst [w5, w6]) = H1 at sq hq nD ⊢
  have S1 : Same (cutH L L L H) H1 := cut_same.trans sq
  have hL1 := sq _ _ hL
  refine lc_list (K := K) (a := q) (xs := [w5, w6]) (fun i H' => Same H1 H' ∧ ∃ ys : List V, H' D = some (.lst ys) ∧ ys.length = i ∧ DrAll K (cutH D D D H') ys (([.list [.str "first"], .list [.str "last"]] : List PyData).take i))
    ⟨same_up nD, [], upd_same, rfl, .nil⟩ (fun i H' _ h => same_seqL h.1 (SqL.of hq)) ?_ ?_
  · rintro i y H' hi ⟨S, ys, hD, ly, hys⟩
    have fin : ∀ (z : Str) (p : Addr) (H4 : Hp), (([.list [.str "first"], .list [.str "last"]] : List PyData).take (i + 1) = ([.list [.str "first"], .list [.str "last"]] : List PyData).take i ++ [.list [.str z]]) → i ≤ 1 → Same H' H4 → H' p = none → Dr K H4 (.ref p) (.list [.str z]) →
        ∃ acc, H4 D = some (.lst acc) ∧ acc.length < sizeLine ∧ (Same H1 (upd H4 D (.lst (acc ++ [.ref p]))) ∧ ∃ ys : List V, upd H4 D (.lst (acc ++ [.ref p])) D = some (.lst ys) ∧ ys.length = i + 1 ∧ DrAll K (cutH D D D (upd H4 D (.lst (acc ++ [.ref p])))) ys (([.list [.str "first"], .list [.str "last"]] : List PyData).take (i + 1))) := by
      intro z p H4 e hi1 S4 np hp
      refine ⟨ys, S4 _ _ hD, by rw [ly, sizeLine_eq]; omega, fun b o z => by rw [upd_ne (ne_of_none z nD)]; exact S4 _ _ (S _ _ z), _, upd_same, by rw [List.length_append, ly] <;> rfl, ?_⟩
      rw [cut_put, e]
      exact (hys.keep (cut_ex S4)).app (.cons (dr_cutL hp (ne_of_none hD np).symm) .nil)
    have SL : Same (cutH L L L H) H' := S1.trans S
    refine ⟨rfl, ?_⟩
    dsimp only [tYes]
    rw [if_pos rfl]
    rcases i with _ | _ | i
    · cases hi
      obtain ⟨q5, v0, v1, v2, v3, rfl, hq5, h0, h1, h2, h3⟩ := dr4 r5
      refine ⟨_, rfl, q5, v0, v1, v2, v3, _, _, _, _, some (.str "first"), rfl, same_seqT SL hq5, h0.keep SL, h1.keep SL, h2.keep SL, h3.keep SL, by decide, by decide, WrongP.first 2 _ _ _ (by decide) (by decide) (by decide), fun p H4 S4 np hp => ?_⟩
      exact fin "first" p H4 rfl (by decide) S4 np hp
    · cases hi
      obtain ⟨q6, v0, v1, v2, v3, rfl, hq6, h0, h1, h2, h3⟩ := dr4 r6
      refine ⟨_, rfl, q6, v0, v1, v2, v3, _, _, _, _, some (.str "last"), rfl, same_seqT SL hq6, h0.keep SL, h1.keep SL, h2.keep SL, h3.keep SL, by decide, by decide, WrongP.last 2 _ _ _ (by decide) (by decide) (by decide) (by decide), fun p H4 S4 np hp => ?_⟩
      exact fin "last" p H4 rfl (by decide) S4 np hp
    · cases hi
  · rintro H2 ⟨S2, ys, hD, ly, hys⟩
    cases hys with
    | @cons y0 _ _ _ ry0 hys =>
    cases hys with
    | @cons y1 _ _ _ ry1 hys =>
    cases hys
    obtain ⟨a0, rfl, sa0⟩ := dr_l1 ry0
    obtain ⟨a1, rfl, sa1⟩ := dr_l1 ry1
    have sa0 := same_seqL cut_same sa0
    have sa1 := same_seqL cut_same sa1
    refine ⟨by show 1 ≤ sizeLine; decide, fun b0 nb0 mb0 => ?_⟩
    have s0 := same_up (o := .lst [.str "first"]) nb0
    refine ⟨by show 1 ≤ sizeLine; decide, fun b1 nb1 mb1 => ?_⟩
    have s1 := same_up (o := .lst [.str "last"]) nb1
    refine ⟨by show 2 ≤ sizeLine; decide, fun b2 nb2 mb2 => ?_⟩
    have s2 := same_up (o := .lst [.ref b0, .ref b1]) nb2
    have hD5 := s2 _ _ (s1 _ _ (s0 _ _ hD))
    have e0 : SqL K (upd (upd (upd H2 b0 (.lst [.str "first"])) b1 (.lst [.str "last"])) b2 (.lst [.ref b0, .ref b1])) b0 [.str "first"] := same_seqL s2 (same_seqL s1 (SqL.of upd_same))
    have e1 : SqL K (upd (upd (upd H2 b0 (.lst [.str "first"])) b1 (.lst [.str "last"])) b2 (.lst [.ref b0, .ref b1])) b1 [.str "last"] := same_seqL s2 (SqL.of upd_same)
    have e2 : SqL K (upd (upd (upd H2 b0 (.lst [.str "first"])) b1 (.lst [.str "last"])) b2 (.lst [.ref b0, .ref b1])) b2 [.ref b0, .ref b1] := SqL.of upd_same
    have S5 := (s0.trans s1).trans s2
    have sa0 := same_seqL S5 sa0
    have sa1 := same_seqL S5 sa1
    generalize upd (upd (upd H2 b0 (.lst [.str "first"])) b1 (.lst [.str "last"])) b2 (.lst [.ref b0, .ref b1]) = H5 at hD5 e0 e1 e2 S5 sa0 sa1 ⊢
    refine ⟨.list [.list [.str "first"], .list [.str "last"]], .list [.list [.str "first"], .list [.str "last"]], .lst (SqL.of hD5) (.cons (.lst sa0 (.cons (.str _) .nil)) (.cons (.lst sa1 (.cons (.str _) .nil)) .nil)), .lst e2 (.cons (.lst e0 (.cons (.str _) .nil)) (.cons (.lst e1 (.cons (.str _) .nil)) .nil)), by decide +kernel, by decide +kernel, _, rfl, ?_⟩
    have eq : (!PyData.eqv (.list [.list [.str "first"], .list [.str "last"]]) (.list [.list [.str "first"], .list [.str "last"]])) = false := by decide +kernel
    rw [eq]
    refine iteF ?_
    have SC : Same (cutH L L L H) H5 := (S1.trans S2).trans S5
    have hL5 := (S2.trans S5) _ _ hL1
    clear e0 e1 e2 sa0 sa1 hD5 eq S5 hD s0 s1 s2
    -- the ring
    refine ⟨by show 3 ≤ sizeLine; decide, fun m1 nm1 => ?_⟩
    have t1 := same_up (o := .tup [.int 0, .str "a", .int 0]) nm1
    refine ⟨by show 1 ≤ sizeLine; decide, fun l1 nl1 => ?_⟩
    have t2 := same_up (o := .tup [.ref m1]) nl1
    refine fun x dx nx nd ne => ?_
    have S3 : Same (upd (upd H5 m1 (.tup [.int 0, .str "a", .int 0])) l1 (.tup [.ref m1])) (upd (upd (upd (upd H5 m1 (.tup [.int 0, .str "a", .int 0])) l1 (.tup [.ref m1])) dx (.own x)) x (.ins C dx [])) := fun b o z => by
      rw [upd_ne (ne_of_none z nx), upd_ne (ne_of_none z nd)]
      exact z
    refine ⟨1, 0, 0, x, dx, l1, [(m1, ⟨0, 97, 0⟩)], rfl, upd_same, ⟨same_seqT S3 (SqT.of upd_same), fun r hr => ?_⟩, okM_of ring_ok rfl, fun H6 keep MA => ⟨rfl, ?_⟩⟩
    · rw [List.mem_singleton.mp hr]
      exact same_seqT S3 (same_seqT t2 (SqT.of upd_same))
    have S56 : Same H5 H6 := fun b o z => keep b o (S3 _ _ (t2 _ _ (t1 _ _ z))) (ne_of_none (t2 _ _ (t1 _ _ z)) nx)
    obtain ⟨dxm, lm, E5, F5, z5, hx6, hMm, _⟩ := id MA.ob
    have SC6 := SC.trans S56
    have hL6 := S56 _ _ hL5
    clear MA keep S3 t1 t2 hMm S56
    refine ⟨_, rfl, 97, rfl, by decide, by decide, fun y1 e1 g1 H7 S7 ny1 hy1 => ?_⟩
    have hx7 := S7 _ _ hx6
    refine ⟨x, dxm, _, .ref CX, rfl, hx7, ty_ins hy1, nfX, x, .ref y1, .ref CX, rfl, .base (.ins hy1 IX.cl IX.ha IX.hn IX.htk IX.hm), kXM, false, rfl, _, rfl, ?_⟩
    refine iteF ?_
    refine ⟨97, rfl, by decide, by decide, fun y2 e2 g2 H8 S8 ny2 hy2 => ?_⟩
    have hx8 := S8 _ _ hx7
    refine ⟨_, rfl, y2, e2, g2, .ref C, rfl, hy2, ty_ins hx8, nfM, y2, .ref x, .ref C, rfl, .base (.ins hx8 IC.cl IC.ha IC.hn IC.htk IC.hm), kMX, false, rfl, _, rfl, ?_⟩
    refine iteF ?_
    refine ⟨_, rfl, 97, rfl, by decide, by decide, fun y3 e3 g3 H9 S9 ny3 hy3 => ?_⟩
    have hx9 := S9 _ _ hx8
    refine ⟨x, dxm, _, .ref CX, rfl, hx9, ty_ins hy3, nfX, x, .ref y3, .ref CX, rfl, .base (.ins hy3 IX.cl IX.ha IX.hn IX.htk IX.hm), kXM, false, rfl, _, rfl, ?_⟩
    refine iteF ?_
    have SC9 := ((SC6.trans S7).trans S8).trans S9
    have hL9 := S9 _ _ (S8 _ _ (S7 _ _ hL6))
    -- all plans by hand beside the bare one
    obtain ⟨qb, b0, b1, b2, b3, eb, hqb, hb0, hb1, hb2, hb3⟩ := dr4 hb
    cases eb
    have hv0 := dr_int hb0
    have hv1 := dr_int hb1
    have hv2 := dr_int hb2
    obtain ⟨lb, xb, hv3, hlb, hab⟩ := dr_tup hb3
    cases hab
    subst hv0 hv1 hv2 hv3
    have okb : OkM 1 0 0 [] := okM_of bare_ok rfl
    refine ⟨_, rfl, L, rfl, ⟨_, SqL.of hL9⟩, fun D2 nD2 => ?_⟩
    refine lc_list (K := K) (a := L) (xs := ws) (fun i H' => Same H9 H' ∧ H' D2 = some (.lst [])) ⟨same_up nD2, upd_same⟩ (fun i H' _ h => SqL.of (h.1 _ _ hL9)) ?_ ?_
    · rintro i y H' hi ⟨S, hD⟩
      have SL := SC9.trans S
      obtain ⟨xd, hxd, rxd⟩ := hd'.get hi
      obtain ⟨d0, d1, d2, d3, rfl, f0, f1, f2, f3, ht⟩ := okPl_of (List.all_eq_true.mp plans_ok xd (List.mem_of_getElem? hxd))
      obtain ⟨q', v0, v1, v2, v3, rfl, hq', h0, h1, h2, h3⟩ := dr4 rxd
      obtain ⟨r, res⟩ : ∃ r, WrongR d0 d1 d2 d3 r := by
        rcases wrongP_or d0 d1 d2 d3 f3.wt with ⟨pp, h⟩ | h
        · exact ⟨some pp, h⟩
        · exact ⟨none, h⟩
      refine ⟨rfl, _, rfl, _, rfl, q', p2, lb, v0, v1, v2, v3, d0, d1, d2, d3, r, 1, 0, 0, [], rfl, same_seqT SL hq', h0.keep SL, h1.keep SL, h2.keep SL, h3.keep SL, f0, f1, f2, f3, ht, res, same_seqT SL hqb, ⟨same_seqT SL hlb, fun _ h => nomatch h⟩, preM_of okb, goodG_of okb, by decide, fun H4 S4 => ⟨_, rfl, ?_⟩⟩
      exact iteF ⟨S.trans S4, S4 _ _ hD⟩
    · rintro HE ⟨S, hD⟩
      refine ⟨Nat.zero_le _, fun b nb mb => ?_⟩
      have eq : PyData.eqv (.list []) (.list []) = true := by decide +kernel
      refine ⟨.list [], .list [], .lst (SqL.of (same_up nb _ _ hD)) .nil, .lst (SqL.of upd_same) .nil, by decide +kernel, by decide +kernel, ?_⟩
      rw [eq]
      exact k _
end
end Vk
set_option Elab.async false
set_option linter.all false
set_option maxRecDepth 100000
set_option maxHeartbeats 4000000
namespace Vk
open PySem PySem.Spec PyProof.Rows L2 Vt PySem.Vx Vs1 ClX
section
variable {P : Program} {w : World} {K : PySem.W.Frag} {mg : Str → Option Value} {base : Heap}
/-- what the statements behind so many plans ask -/
def StB (K : PySem.W.Frag) (Q : VK) (n : Nat) (t : TS) : Prop := ∀ (x0 x1 x2 x3 x4 x5 x6 x9 : Option V) (p2 L : Addr) (ws : List V) (H : Hp), H L = some (.lst ws) → DrAll K (cutH L L L H) ws (plansD.take n) → Dr K (cutH L L L H) (.ref p2) bareD →
  t { nx := fun _ H' => Q .non H', rt := Q } [x0, x1, x2, x3, x4, x5, x6, some (.ref p2), some (.ref L), x9] H
theorem law_b8 {f C CX fWr fRt fI fLt fEq fXe : Addr} {fdWr fdRt fdI fdLt fdEq fdXe : FuncData}
(T : Txt8 K mg)
    (GWr : FnOk P w K mg base CX0 4 fWr fdWr ["_law_plan"] (spWrong K)) (gWr : mg "_law_wrong" = some (.ref fWr)) (kWr : PySem.W.keepIn K (.ref fWr) = true) (bWr : Binds K fdWr ["_law_plan"] [])
    (GRt : FnG P w K mg base CX0 9 fRt fdRt ["_law_plan", "_law_mate"] (spRight K)) (gRt : mg "_law_right" = some (.ref fRt)) (kRt : PySem.W.keepIn K (.ref fRt) = true) (bRt : Binds K fdRt ["_law_plan", "_law_mate"] [])
    (gM : mg "Machine" = some (.ref C)) (MK : Mk K C fI) (bI : Binds K fdI ["self", "size", "first", "last", "moves"] []) (GI : FnOk P w K mg base CX0 6 fI fdI ["self", "size", "first", "last", "moves"] (spInit K C))
    (GLt : FnOk P w K mg base CX0 5 fLt fdLt ["sign"] (spXLet K CX)) (gLt : mg "letter" = some (.ref fLt)) (kLt : PySem.W.keepIn K (.ref fLt) = true) (bLt : Binds K fdLt ["sign"] [])
    (GEn : FnOk P w K mg base CX0 1 fEq fdEq ["self", "other"] (spEqN K C)) (sEq : PySem.W.findIn K (.ref C) "__eq__" = some (some (.ref fEq))) (nEq : PySem.W.isFn K (.ref fEq) = true) (bEq : Binds K fdEq ["self", "other"] [])
    (GXe : FnOk P w K mg base CX0 1 fXe fdXe ["self", "other"] (spXEq K CX)) (sXe : PySem.W.findIn K (.ref CX) "__eq__" = some (some (.ref fXe))) (nXe : PySem.W.isFn K (.ref fXe) = true) (bXe : Binds K fdXe ["self", "other"] [])
    (hmo : PySem.W.mroIn K C (.type "object") = some true) (hne : PySem.W.findIn K (.ref C) "__ne__" = some (some (.builtin "object.__ne__")))
    (nfX : PySem.W.notFirst K C (.ref CX) = true) (nfM : PySem.W.notFirst K CX (.ref C) = true) (kXM : PySem.W.kitOne K (.ref CX) (.ref C) = some false) (kMX : PySem.W.kitOne K (.ref C) (.ref CX) = some false) (IC : C8.InsC K C) (IX : C8.InsC K CX)
    {cdv : Value} {A : Around} {outer : List Env} {s : Shared} {H0 : Hp} {E : XK} {Q : VK} (hgd : A.guards = some []) (hr : Room 9 (A.deeper (envOfC "law" (defScope sLaw2) s.heap.objs.size f cdv))) (k : ∀ H', Q (.bl true) H') :
    ∃ t, PSs (cxOf CX0 P w K mg base N2 "law" (defScope sLaw2) f cdv A outer s H0 E).nox ((defBody sLaw2).drop 8) t ∧ StB K Q 12 t := by
  have hr1 : Room 1 _ := hr.mono (by decide)
  have hr2 : Room 2 _ := hr.mono (by decide)
  have hr4 : Room 3 _ := hr.mono (by decide)
  have hr4w : Room 4 _ := hr.mono (by decide)
  have hr5 : Room 5 _ := hr.mono (by decide)
  have hr7 : Room 7 _ := hr.mono (by decide)
  have hr9 : Room 9 _ := hr
  obtain ⟨tN, hN, useN⟩ := law_c (f := f) (cdv := cdv) (A := A) (outer := outer) (s := s) (H0 := H0) (E := E) (Q := Q) T GWr gWr kWr bWr GRt gRt kRt bRt gM MK bI GI GLt gLt kLt bLt GEn sEq nEq bEq GXe sXe nXe bXe hmo hne nfX nfM kXM kMX IC IX hgd hr k
  refine ⟨_, (pss_cons (ps_set (i := 8) sc2.nd rfl (.inl rfl) (pe_op op_cat (pv 8) (pe_lstN (pa_cons (pe_tup (pa_cons pe_int (pa_cons pe_int (pa_cons pe_int (pa_cons (pe_tup (pa_cons (pe_tup (pa_cons pe_int (pa_cons pe_str (pa_cons pe_int pa_nil)))) (pa_cons (pe_tup (pa_cons pe_int (pa_cons pe_str (pa_cons pe_int pa_nil)))) pa_nil))) pa_nil))))) (pa_cons (pe_tup (pa_cons pe_int (pa_cons pe_int (pa_cons pe_int (pa_cons (pe_tup (pa_cons (pe_tup (pa_cons pe_int (pa_cons pe_str (pa_cons pe_int pa_nil)))) (pa_cons (pe_tup (pa_cons pe_int (pa_cons pe_str (pa_cons pe_int pa_nil)))) pa_nil))) pa_nil))))) pa_nil))))) hN), fun x0 x1 x2 x3 x4 x5 x6 x9 p2 L ws H hL hd hb => ?_⟩
  have lw : ws.length = 12 := hd.length
  refine ⟨_, rfl, ?_⟩
  refine ⟨by show 3 ≤ sizeLine; decide, fun p101 n101 => ?_⟩
  have s101 := cut_ex (d := L) (g := L) (b := L) (same_up (o := (.tup [.int 0, .str "a", .int 1])) n101)
  have l101 : p101 ≠ L := (ne_of_none hL n101).symm
  have r101 : Dr K (cutH L L L (upd H p101 (.tup [.int 0, .str "a", .int 1]))) (.ref p101) (.tuple [.int 0, .str "a", .int 1]) := .tup (SqT.of (cut_at upd_same l101 l101 l101)) (.cons (.int _) (.cons (.str _) (.cons (.int _) .nil)))
  have hd := hd.keep s101
  have hb := hb.keep s101
  have hL := same_up (o := (.tup [.int 0, .str "a", .int 1])) n101 _ _ hL
  generalize upd H p101 (.tup [.int 0, .str "a", .int 1]) = G101 at hd hb r101 hL ⊢
  refine ⟨by show 3 ≤ sizeLine; decide, fun p102 n102 => ?_⟩
  have s102 := cut_ex (d := L) (g := L) (b := L) (same_up (o := (.tup [.int 1, .str "b", .int 2])) n102)
  have l102 : p102 ≠ L := (ne_of_none hL n102).symm
  have r102 : Dr K (cutH L L L (upd G101 p102 (.tup [.int 1, .str "b", .int 2]))) (.ref p102) (.tuple [.int 1, .str "b", .int 2]) := .tup (SqT.of (cut_at upd_same l102 l102 l102)) (.cons (.int _) (.cons (.str _) (.cons (.int _) .nil)))
  have r101 := r101.keep s102
  have hd := hd.keep s102
  have hb := hb.keep s102
  have hL := same_up (o := (.tup [.int 1, .str "b", .int 2])) n102 _ _ hL
  generalize upd G101 p102 (.tup [.int 1, .str "b", .int 2]) = G102 at r101 hd hb r102 hL ⊢
  refine ⟨by show 2 ≤ sizeLine; decide, fun p103 n103 => ?_⟩
  have s103 := cut_ex (d := L) (g := L) (b := L) (same_up (o := (.tup [.ref p101, .ref p102])) n103)
  have l103 : p103 ≠ L := (ne_of_none hL n103).symm
  have r103 : Dr K (cutH L L L (upd G102 p103 (.tup [.ref p101, .ref p102]))) (.ref p103) (.tuple [(.tuple [.int 0, .str "a", .int 1]), (.tuple [.int 1, .str "b", .int 2])]) := .tup (SqT.of (cut_at upd_same l103 l103 l103)) (.cons (r101.keep s103) (.cons (r102.keep s103) .nil))
  have hd := hd.keep s103
  have hb := hb.keep s103
  have hL := same_up (o := (.tup [.ref p101, .ref p102])) n103 _ _ hL
  generalize upd G102 p103 (.tup [.ref p101, .ref p102]) = G103 at hd hb r103 hL ⊢
  refine ⟨by show 4 ≤ sizeLine; decide, fun p104 n104 => ?_⟩
  have s104 := cut_ex (d := L) (g := L) (b := L) (same_up (o := (.tup [.int 3, .int 0, .int 1, .ref p103])) n104)
  have l104 : p104 ≠ L := (ne_of_none hL n104).symm
  have r104 : Dr K (cutH L L L (upd G103 p104 (.tup [.int 3, .int 0, .int 1, .ref p103]))) (.ref p104) (.tuple [.int 3, .int 0, .int 1, (.tuple [(.tuple [.int 0, .str "a", .int 1]), (.tuple [.int 1, .str "b", .int 2])])]) := .tup (SqT.of (cut_at upd_same l104 l104 l104)) (.cons (.int _) (.cons (.int _) (.cons (.int _) (.cons (r103.keep s104) .nil))))
  have hd := hd.keep s104
  have hb := hb.keep s104
  have hL := same_up (o := (.tup [.int 3, .int 0, .int 1, .ref p103])) n104 _ _ hL
  generalize upd G103 p104 (.tup [.int 3, .int 0, .int 1, .ref p103]) = G104 at hd hb r104 hL ⊢
  refine ⟨by show 3 ≤ sizeLine; decide, fun p105 n105 => ?_⟩
  have s105 := cut_ex (d := L) (g := L) (b := L) (same_up (o := (.tup [.int 0, .str "a", .int 1])) n105)
  have l105 : p105 ≠ L := (ne_of_none hL n105).symm
  have r105 : Dr K (cutH L L L (upd G104 p105 (.tup [.int 0, .str "a", .int 1]))) (.ref p105) (.tuple [.int 0, .str "a", .int 1]) := .tup (SqT.of (cut_at upd_same l105 l105 l105)) (.cons (.int _) (.cons (.str _) (.cons (.int _) .nil)))
  have r104 := r104.keep s105
  have hd := hd.keep s105
  have hb := hb.keep s105
  have hL := same_up (o := (.tup [.int 0, .str "a", .int 1])) n105 _ _ hL
  generalize upd G104 p105 (.tup [.int 0, .str "a", .int 1]) = G105 at r104 hd hb r105 hL ⊢
  refine ⟨by show 3 ≤ sizeLine; decide, fun p106 n106 => ?_⟩
  have s106 := cut_ex (d := L) (g := L) (b := L) (same_up (o := (.tup [.int 2, .str "b", .int 1])) n106)
  have l106 : p106 ≠ L := (ne_of_none hL n106).symm
  have r106 : Dr K (cutH L L L (upd G105 p106 (.tup [.int 2, .str "b", .int 1]))) (.ref p106) (.tuple [.int 2, .str "b", .int 1]) := .tup (SqT.of (cut_at upd_same l106 l106 l106)) (.cons (.int _) (.cons (.str _) (.cons (.int _) .nil)))
  have r104 := r104.keep s106
  have r105 := r105.keep s106
  have hd := hd.keep s106
  have hb := hb.keep s106
  have hL := same_up (o := (.tup [.int 2, .str "b", .int 1])) n106 _ _ hL
  generalize upd G105 p106 (.tup [.int 2, .str "b", .int 1]) = G106 at r104 r105 hd hb r106 hL ⊢
  refine ⟨by show 2 ≤ sizeLine; decide, fun p107 n107 => ?_⟩
  have s107 := cut_ex (d := L) (g := L) (b := L) (same_up (o := (.tup [.ref p105, .ref p106])) n107)
  have l107 : p107 ≠ L := (ne_of_none hL n107).symm
  have r107 : Dr K (cutH L L L (upd G106 p107 (.tup [.ref p105, .ref p106]))) (.ref p107) (.tuple [(.tuple [.int 0, .str "a", .int 1]), (.tuple [.int 2, .str "b", .int 1])]) := .tup (SqT.of (cut_at upd_same l107 l107 l107)) (.cons (r105.keep s107) (.cons (r106.keep s107) .nil))
  have r104 := r104.keep s107
  have hd := hd.keep s107
  have hb := hb.keep s107
  have hL := same_up (o := (.tup [.ref p105, .ref p106])) n107 _ _ hL
  generalize upd G106 p107 (.tup [.ref p105, .ref p106]) = G107 at r104 hd hb r107 hL ⊢
  refine ⟨by show 4 ≤ sizeLine; decide, fun p108 n108 => ?_⟩
  have s108 := cut_ex (d := L) (g := L) (b := L) (same_up (o := (.tup [.int 3, .int 0, .int 1, .ref p107])) n108)
  have l108 : p108 ≠ L := (ne_of_none hL n108).symm
  have r108 : Dr K (cutH L L L (upd G107 p108 (.tup [.int 3, .int 0, .int 1, .ref p107]))) (.ref p108) (.tuple [.int 3, .int 0, .int 1, (.tuple [(.tuple [.int 0, .str "a", .int 1]), (.tuple [.int 2, .str "b", .int 1])])]) := .tup (SqT.of (cut_at upd_same l108 l108 l108)) (.cons (.int _) (.cons (.int _) (.cons (.int _) (.cons (r107.keep s108) .nil))))
  have r104 := r104.keep s108
  have hd := hd.keep s108
  have hb := hb.keep s108
  have hL := same_up (o := (.tup [.int 3, .int 0, .int 1, .ref p107])) n108 _ _ hL
  generalize upd G107 p108 (.tup [.int 3, .int 0, .int 1, .ref p107]) = G108 at r104 hd hb r108 hL ⊢
  refine ⟨by show 2 ≤ sizeLine; decide, fun p109 n109 m109 => ?_⟩
  have s109 := cut_ex (d := L) (g := L) (b := L) (same_up (o := (.lst [.ref p104, .ref p108])) n109)
  have l109 : p109 ≠ L := (ne_of_none hL n109).symm
  have r104 := r104.keep s109
  have r108 := r108.keep s109
  have hd := hd.keep s109
  have hb := hb.keep s109
  have hL := same_up (o := (.lst [.ref p104, .ref p108])) n109 _ _ hL
  have hM : upd G108 p109 (.lst [.ref p104, .ref p108]) p109 = some (.lst [.ref p104, .ref p108]) := upd_same
  generalize upd G108 p109 (.lst [.ref p104, .ref p108]) = G109 at r104 r108 hd hb hM hL ⊢
  refine ⟨L, p109, _, _, rfl, rfl, hL, hM, by rw [lw]; show 14 ≤ sizeLine; decide, fun Z nZ => ?_⟩
  have hd := hd.keep (cut_same.trans (cut_fresh (o := (.lst (ws ++ [.ref p104, .ref p108]))) nZ))
  have hb := hb.keep (cut_same.trans (cut_fresh (o := (.lst (ws ++ [.ref p104, .ref p108]))) nZ))
  have r104 := r104.keep (cut_same.trans (cut_fresh (o := (.lst (ws ++ [.ref p104, .ref p108]))) nZ))
  have r108 := r108.keep (cut_same.trans (cut_fresh (o := (.lst (ws ++ [.ref p104, .ref p108]))) nZ))
  exact useN _ _ _ _ _ _ _ _ _ Z _ _ upd_same (hd.app (.cons r104 (.cons r108 .nil))) hb
theorem law_b7 {f C CX fWr fRt fI fLt fEq fXe : Addr} {fdWr fdRt fdI fdLt fdEq fdXe : FuncData}
(T : Txt8 K mg)
    (GWr : FnOk P w K mg base CX0 4 fWr fdWr ["_law_plan"] (spWrong K)) (gWr : mg "_law_wrong" = some (.ref fWr)) (kWr : PySem.W.keepIn K (.ref fWr) = true) (bWr : Binds K fdWr ["_law_plan"] [])
    (GRt : FnG P w K mg base CX0 9 fRt fdRt ["_law_plan", "_law_mate"] (spRight K)) (gRt : mg "_law_right" = some (.ref fRt)) (kRt : PySem.W.keepIn K (.ref fRt) = true) (bRt : Binds K fdRt ["_law_plan", "_law_mate"] [])
    (gM : mg "Machine" = some (.ref C)) (MK : Mk K C fI) (bI : Binds K fdI ["self", "size", "first", "last", "moves"] []) (GI : FnOk P w K mg base CX0 6 fI fdI ["self", "size", "first", "last", "moves"] (spInit K C))
    (GLt : FnOk P w K mg base CX0 5 fLt fdLt ["sign"] (spXLet K CX)) (gLt : mg "letter" = some (.ref fLt)) (kLt : PySem.W.keepIn K (.ref fLt) = true) (bLt : Binds K fdLt ["sign"] [])
    (GEn : FnOk P w K mg base CX0 1 fEq fdEq ["self", "other"] (spEqN K C)) (sEq : PySem.W.findIn K (.ref C) "__eq__" = some (some (.ref fEq))) (nEq : PySem.W.isFn K (.ref fEq) = true) (bEq : Binds K fdEq ["self", "other"] [])
    (GXe : FnOk P w K mg base CX0 1 fXe fdXe ["self", "other"] (spXEq K CX)) (sXe : PySem.W.findIn K (.ref CX) "__eq__" = some (some (.ref fXe))) (nXe : PySem.W.isFn K (.ref fXe) = true) (bXe : Binds K fdXe ["self", "other"] [])
    (hmo : PySem.W.mroIn K C (.type "object") = some true) (hne : PySem.W.findIn K (.ref C) "__ne__" = some (some (.builtin "object.__ne__")))
    (nfX : PySem.W.notFirst K C (.ref CX) = true) (nfM : PySem.W.notFirst K CX (.ref C) = true) (kXM : PySem.W.kitOne K (.ref CX) (.ref C) = some false) (kMX : PySem.W.kitOne K (.ref C) (.ref CX) = some false) (IC : C8.InsC K C) (IX : C8.InsC K CX)
    {cdv : Value} {A : Around} {outer : List Env} {s : Shared} {H0 : Hp} {E : XK} {Q : VK} (hgd : A.guards = some []) (hr : Room 9 (A.deeper (envOfC "law" (defScope sLaw2) s.heap.objs.size f cdv))) (k : ∀ H', Q (.bl true) H') :
    ∃ t, PSs (cxOf CX0 P w K mg base N2 "law" (defScope sLaw2) f cdv A outer s H0 E).nox ((defBody sLaw2).drop 7) t ∧ StB K Q 11 t := by
  have hr1 : Room 1 _ := hr.mono (by decide)
  have hr2 : Room 2 _ := hr.mono (by decide)
  have hr4 : Room 3 _ := hr.mono (by decide)
  have hr4w : Room 4 _ := hr.mono (by decide)
  have hr5 : Room 5 _ := hr.mono (by decide)
  have hr7 : Room 7 _ := hr.mono (by decide)
  have hr9 : Room 9 _ := hr
  obtain ⟨tN, hN, useN⟩ := law_b8 (f := f) (cdv := cdv) (A := A) (outer := outer) (s := s) (H0 := H0) (E := E) (Q := Q) T GWr gWr kWr bWr GRt gRt kRt bRt gM MK bI GI GLt gLt kLt bLt GEn sEq nEq bEq GXe sXe nXe bXe hmo hne nfX nfM kXM kMX IC IX hgd hr k
  refine ⟨_, (pss_cons (ps_expr (pe_bm PySem.F.plainAttrs_list PySem.F.slot_list_append PySem.F.type_list_append mt_append (pv 8) (pa_cons (pe_tup (pa_cons pe_int (pa_cons pe_int (pa_cons pe_int (pa_cons (pe_tup (pa_cons (pe_tup (pa_cons pe_int (pa_cons pe_str (pa_cons pe_int pa_nil)))) (pa_cons (pe_tup (pa_cons pe_int (pa_cons pe_str (pa_cons pe_int pa_nil)))) (pa_cons (pe_tup (pa_cons pe_int (pa_cons pe_str (pa_cons pe_int pa_nil)))) pa_nil)))) pa_nil))))) pa_nil))) hN), fun x0 x1 x2 x3 x4 x5 x6 x9 p2 L ws H hL hd hb => ?_⟩
  have lw : ws.length = 11 := hd.length
  refine ⟨_, rfl, .inl ⟨rfl, _, SqL.of hL⟩, ?_⟩
  refine ⟨by show 3 ≤ sizeLine; decide, fun p101 n101 => ?_⟩
  have s101 := cut_ex (d := L) (g := L) (b := L) (same_up (o := (.tup [.int 0, .str "a", .int 1])) n101)
  have l101 : p101 ≠ L := (ne_of_none hL n101).symm
  have r101 : Dr K (cutH L L L (upd H p101 (.tup [.int 0, .str "a", .int 1]))) (.ref p101) (.tuple [.int 0, .str "a", .int 1]) := .tup (SqT.of (cut_at upd_same l101 l101 l101)) (.cons (.int _) (.cons (.str _) (.cons (.int _) .nil)))
  have hd := hd.keep s101
  have hb := hb.keep s101
  have hL := same_up (o := (.tup [.int 0, .str "a", .int 1])) n101 _ _ hL
  generalize upd H p101 (.tup [.int 0, .str "a", .int 1]) = G101 at hd hb r101 hL ⊢
  refine ⟨by show 3 ≤ sizeLine; decide, fun p102 n102 => ?_⟩
  have s102 := cut_ex (d := L) (g := L) (b := L) (same_up (o := (.tup [.int 1, .str "a", .int 1])) n102)
  have l102 : p102 ≠ L := (ne_of_none hL n102).symm
  have r102 : Dr K (cutH L L L (upd G101 p102 (.tup [.int 1, .str "a", .int 1]))) (.ref p102) (.tuple [.int 1, .str "a", .int 1]) := .tup (SqT.of (cut_at upd_same l102 l102 l102)) (.cons (.int _) (.cons (.str _) (.cons (.int _) .nil)))
  have r101 := r101.keep s102
  have hd := hd.keep s102
  have hb := hb.keep s102
  have hL := same_up (o := (.tup [.int 1, .str "a", .int 1])) n102 _ _ hL
  generalize upd G101 p102 (.tup [.int 1, .str "a", .int 1]) = G102 at r101 hd hb r102 hL ⊢
  refine ⟨by show 3 ≤ sizeLine; decide, fun p103 n103 => ?_⟩
  have s103 := cut_ex (d := L) (g := L) (b := L) (same_up (o := (.tup [.int 1, .str "b", .int 0])) n103)
  have l103 : p103 ≠ L := (ne_of_none hL n103).symm
  have r103 : Dr K (cutH L L L (upd G102 p103 (.tup [.int 1, .str "b", .int 0]))) (.ref p103) (.tuple [.int 1, .str "b", .int 0]) := .tup (SqT.of (cut_at upd_same l103 l103 l103)) (.cons (.int _) (.cons (.str _) (.cons (.int _) .nil)))
  have r101 := r101.keep s103
  have r102 := r102.keep s103
  have hd := hd.keep s103
  have hb := hb.keep s103
  have hL := same_up (o := (.tup [.int 1, .str "b", .int 0])) n103 _ _ hL
  generalize upd G102 p103 (.tup [.int 1, .str "b", .int 0]) = G103 at r101 r102 hd hb r103 hL ⊢
  refine ⟨by show 3 ≤ sizeLine; decide, fun p104 n104 => ?_⟩
  have s104 := cut_ex (d := L) (g := L) (b := L) (same_up (o := (.tup [.ref p101, .ref p102, .ref p103])) n104)
  have l104 : p104 ≠ L := (ne_of_none hL n104).symm
  have r104 : Dr K (cutH L L L (upd G103 p104 (.tup [.ref p101, .ref p102, .ref p103]))) (.ref p104) (.tuple [(.tuple [.int 0, .str "a", .int 1]), (.tuple [.int 1, .str "a", .int 1]), (.tuple [.int 1, .str "b", .int 0])]) := .tup (SqT.of (cut_at upd_same l104 l104 l104)) (.cons (r101.keep s104) (.cons (r102.keep s104) (.cons (r103.keep s104) .nil)))
  have hd := hd.keep s104
  have hb := hb.keep s104
  have hL := same_up (o := (.tup [.ref p101, .ref p102, .ref p103])) n104 _ _ hL
  generalize upd G103 p104 (.tup [.ref p101, .ref p102, .ref p103]) = G104 at hd hb r104 hL ⊢
  refine ⟨by show 4 ≤ sizeLine; decide, fun p105 n105 => ?_⟩
  have s105 := cut_ex (d := L) (g := L) (b := L) (same_up (o := (.tup [.int 3, .int 0, .int 1, .ref p104])) n105)
  have l105 : p105 ≠ L := (ne_of_none hL n105).symm
  have r105 : Dr K (cutH L L L (upd G104 p105 (.tup [.int 3, .int 0, .int 1, .ref p104]))) (.ref p105) (.tuple [.int 3, .int 0, .int 1, (.tuple [(.tuple [.int 0, .str "a", .int 1]), (.tuple [.int 1, .str "a", .int 1]), (.tuple [.int 1, .str "b", .int 0])])]) := .tup (SqT.of (cut_at upd_same l105 l105 l105)) (.cons (.int _) (.cons (.int _) (.cons (.int _) (.cons (r104.keep s105) .nil))))
  have hd := hd.keep s105
  have hb := hb.keep s105
  have hL := same_up (o := (.tup [.int 3, .int 0, .int 1, .ref p104])) n105 _ _ hL
  generalize upd G104 p105 (.tup [.int 3, .int 0, .int 1, .ref p104]) = G105 at hd hb r105 hL ⊢
  refine ⟨L, _, _, rfl, rfl, hL, by rw [lw]; show 11 < sizeLine; decide, ?_⟩
  have e : cutH L L L (upd G105 L (.lst (ws ++ [.ref p105]))) = cutH L L L G105 := cut_put
  exact useN _ _ _ _ _ _ _ _ _ L _ _ upd_same (by rw [e]; exact hd.app (.cons r105 .nil)) (by rw [e]; exact hb)
theorem law_b6 {f C CX fWr fRt fI fLt fEq fXe : Addr} {fdWr fdRt fdI fdLt fdEq fdXe : FuncData}
(T : Txt8 K mg)
    (GWr : FnOk P w K mg base CX0 4 fWr fdWr ["_law_plan"] (spWrong K)) (gWr : mg "_law_wrong" = some (.ref fWr)) (kWr : PySem.W.keepIn K (.ref fWr) = true) (bWr : Binds K fdWr ["_law_plan"] [])
    (GRt : FnG P w K mg base CX0 9 fRt fdRt ["_law_plan", "_law_mate"] (spRight K)) (gRt : mg "_law_right" = some (.ref fRt)) (kRt : PySem.W.keepIn K (.ref fRt) = true) (bRt : Binds K fdRt ["_law_plan", "_law_mate"] [])
    (gM : mg "Machine" = some (.ref C)) (MK : Mk K C fI) (bI : Binds K fdI ["self", "size", "first", "last", "moves"] []) (GI : FnOk P w K mg base CX0 6 fI fdI ["self", "size", "first", "last", "moves"] (spInit K C))
    (GLt : FnOk P w K mg base CX0 5 fLt fdLt ["sign"] (spXLet K CX)) (gLt : mg "letter" = some (.ref fLt)) (kLt : PySem.W.keepIn K (.ref fLt) = true) (bLt : Binds K fdLt ["sign"] [])
    (GEn : FnOk P w K mg base CX0 1 fEq fdEq ["self", "other"] (spEqN K C)) (sEq : PySem.W.findIn K (.ref C) "__eq__" = some (some (.ref fEq))) (nEq : PySem.W.isFn K (.ref fEq) = true) (bEq : Binds K fdEq ["self", "other"] [])
    (GXe : FnOk P w K mg base CX0 1 fXe fdXe ["self", "other"] (spXEq K CX)) (sXe : PySem.W.findIn K (.ref CX) "__eq__" = some (some (.ref fXe))) (nXe : PySem.W.isFn K (.ref fXe) = true) (bXe : Binds K fdXe ["self", "other"] [])
    (hmo : PySem.W.mroIn K C (.type "object") = some true) (hne : PySem.W.findIn K (.ref C) "__ne__" = some (some (.builtin "object.__ne__")))
    (nfX : PySem.W.notFirst K C (.ref CX) = true) (nfM : PySem.W.notFirst K CX (.ref C) = true) (kXM : PySem.W.kitOne K (.ref CX) (.ref C) = some false) (kMX : PySem.W.kitOne K (.ref C) (.ref CX) = some false) (IC : C8.InsC K C) (IX : C8.InsC K CX)
    {cdv : Value} {A : Around} {outer : List Env} {s : Shared} {H0 : Hp} {E : XK} {Q : VK} (hgd : A.guards = some []) (hr : Room 9 (A.deeper (envOfC "law" (defScope sLaw2) s.heap.objs.size f cdv))) (k : ∀ H', Q (.bl true) H') :
    ∃ t, PSs (cxOf CX0 P w K mg base N2 "law" (defScope sLaw2) f cdv A outer s H0 E).nox ((defBody sLaw2).drop 6) t ∧ StB K Q 10 t := by
  have hr1 : Room 1 _ := hr.mono (by decide)
  have hr2 : Room 2 _ := hr.mono (by decide)
  have hr4 : Room 3 _ := hr.mono (by decide)
  have hr4w : Room 4 _ := hr.mono (by decide)
  have hr5 : Room 5 _ := hr.mono (by decide)
  have hr7 : Room 7 _ := hr.mono (by decide)
  have hr9 : Room 9 _ := hr
  obtain ⟨tN, hN, useN⟩ := law_b7 (f := f) (cdv := cdv) (A := A) (outer := outer) (s := s) (H0 := H0) (E := E) (Q := Q) T GWr gWr kWr bWr GRt gRt kRt bRt gM MK bI GI GLt gLt kLt bLt GEn sEq nEq bEq GXe sXe nXe bXe hmo hne nfX nfM kXM kMX IC IX hgd hr k
  refine ⟨_, (pss_cons (ps_expr (pe_bm PySem.F.plainAttrs_list PySem.F.slot_list_append PySem.F.type_list_append mt_append (pv 8) (pa_cons (pe_tup (pa_cons pe_int (pa_cons pe_int (pa_cons pe_int (pa_cons (pe_tup (pa_cons (pe_tup (pa_cons pe_int (pa_cons pe_str (pa_cons pe_int pa_nil)))) (pa_cons (pe_tup (pa_cons pe_int (pa_cons pe_str (pa_cons pe_int pa_nil)))) (pa_cons (pe_tup (pa_cons pe_int (pa_cons pe_str (pa_cons pe_int pa_nil)))) (pa_cons (pe_tup (pa_cons pe_int (pa_cons pe_str (pa_cons pe_int pa_nil)))) pa_nil))))) pa_nil))))) pa_nil))) hN), fun x0 x1 x2 x3 x4 x5 x6 x9 p2 L ws H hL hd hb => ?_⟩
  have lw : ws.length = 10 := hd.length
  refine ⟨_, rfl, .inl ⟨rfl, _, SqL.of hL⟩, ?_⟩
  refine ⟨by show 3 ≤ sizeLine; decide, fun p101 n101 => ?_⟩
  have s101 := cut_ex (d := L) (g := L) (b := L) (same_up (o := (.tup [.int 0, .str "a", .int 1])) n101)
  have l101 : p101 ≠ L := (ne_of_none hL n101).symm
  have r101 : Dr K (cutH L L L (upd H p101 (.tup [.int 0, .str "a", .int 1]))) (.ref p101) (.tuple [.int 0, .str "a", .int 1]) := .tup (SqT.of (cut_at upd_same l101 l101 l101)) (.cons (.int _) (.cons (.str _) (.cons (.int _) .nil)))
  have hd := hd.keep s101
  have hb := hb.keep s101
  have hL := same_up (o := (.tup [.int 0, .str "a", .int 1])) n101 _ _ hL
  generalize upd H p101 (.tup [.int 0, .str "a", .int 1]) = G101 at hd hb r101 hL ⊢
  refine ⟨by show 3 ≤ sizeLine; decide, fun p102 n102 => ?_⟩
  have s102 := cut_ex (d := L) (g := L) (b := L) (same_up (o := (.tup [.int 1, .str "a", .int 1])) n102)
  have l102 : p102 ≠ L := (ne_of_none hL n102).symm
  have r102 : Dr K (cutH L L L (upd G101 p102 (.tup [.int 1, .str "a", .int 1]))) (.ref p102) (.tuple [.int 1, .str "a", .int 1]) := .tup (SqT.of (cut_at upd_same l102 l102 l102)) (.cons (.int _) (.cons (.str _) (.cons (.int _) .nil)))
  have r101 := r101.keep s102
  have hd := hd.keep s102
  have hb := hb.keep s102
  have hL := same_up (o := (.tup [.int 1, .str "a", .int 1])) n102 _ _ hL
  generalize upd G101 p102 (.tup [.int 1, .str "a", .int 1]) = G102 at r101 hd hb r102 hL ⊢
  refine ⟨by show 3 ≤ sizeLine; decide, fun p103 n103 => ?_⟩
  have s103 := cut_ex (d := L) (g := L) (b := L) (same_up (o := (.tup [.int 1, .str "b", .int 0])) n103)
  have l103 : p103 ≠ L := (ne_of_none hL n103).symm
  have r103 : Dr K (cutH L L L (upd G102 p103 (.tup [.int 1, .str "b", .int 0]))) (.ref p103) (.tuple [.int 1, .str "b", .int 0]) := .tup (SqT.of (cut_at upd_same l103 l103 l103)) (.cons (.int _) (.cons (.str _) (.cons (.int _) .nil)))
  have r101 := r101.keep s103
  have r102 := r102.keep s103
  have hd := hd.keep s103
  have hb := hb.keep s103
  have hL := same_up (o := (.tup [.int 1, .str "b", .int 0])) n103 _ _ hL
  generalize upd G102 p103 (.tup [.int 1, .str "b", .int 0]) = G103 at r101 r102 hd hb r103 hL ⊢
  refine ⟨by show 3 ≤ sizeLine; decide, fun p104 n104 => ?_⟩
  have s104 := cut_ex (d := L) (g := L) (b := L) (same_up (o := (.tup [.int 1, .str "b", .int 1])) n104)
  have l104 : p104 ≠ L := (ne_of_none hL n104).symm
  have r104 : Dr K (cutH L L L (upd G103 p104 (.tup [.int 1, .str "b", .int 1]))) (.ref p104) (.tuple [.int 1, .str "b", .int 1]) := .tup (SqT.of (cut_at upd_same l104 l104 l104)) (.cons (.int _) (.cons (.str _) (.cons (.int _) .nil)))
  have r101 := r101.keep s104
  have r102 := r102.keep s104
  have r103 := r103.keep s104
  have hd := hd.keep s104
  have hb := hb.keep s104
  have hL := same_up (o := (.tup [.int 1, .str "b", .int 1])) n104 _ _ hL
  generalize upd G103 p104 (.tup [.int 1, .str "b", .int 1]) = G104 at r101 r102 r103 hd hb r104 hL ⊢
  refine ⟨by show 4 ≤ sizeLine; decide, fun p105 n105 => ?_⟩
  have s105 := cut_ex (d := L) (g := L) (b := L) (same_up (o := (.tup [.ref p101, .ref p102, .ref p103, .ref p104])) n105)
  have l105 : p105 ≠ L := (ne_of_none hL n105).symm
  have r105 : Dr K (cutH L L L (upd G104 p105 (.tup [.ref p101, .ref p102, .ref p103, .ref p104]))) (.ref p105) (.tuple [(.tuple [.int 0, .str "a", .int 1]), (.tuple [.int 1, .str "a", .int 1]), (.tuple [.int 1, .str "b", .int 0]), (.tuple [.int 1, .str "b", .int 1])]) := .tup (SqT.of (cut_at upd_same l105 l105 l105)) (.cons (r101.keep s105) (.cons (r102.keep s105) (.cons (r103.keep s105) (.cons (r104.keep s105) .nil))))
  have hd := hd.keep s105
  have hb := hb.keep s105
  have hL := same_up (o := (.tup [.ref p101, .ref p102, .ref p103, .ref p104])) n105 _ _ hL
  generalize upd G104 p105 (.tup [.ref p101, .ref p102, .ref p103, .ref p104]) = G105 at hd hb r105 hL ⊢
  refine ⟨by show 4 ≤ sizeLine; decide, fun p106 n106 => ?_⟩
  have s106 := cut_ex (d := L) (g := L) (b := L) (same_up (o := (.tup [.int 3, .int 0, .int 1, .ref p105])) n106)
  have l106 : p106 ≠ L := (ne_of_none hL n106).symm
  have r106 : Dr K (cutH L L L (upd G105 p106 (.tup [.int 3, .int 0, .int 1, .ref p105]))) (.ref p106) (.tuple [.int 3, .int 0, .int 1, (.tuple [(.tuple [.int 0, .str "a", .int 1]), (.tuple [.int 1, .str "a", .int 1]), (.tuple [.int 1, .str "b", .int 0]), (.tuple [.int 1, .str "b", .int 1])])]) := .tup (SqT.of (cut_at upd_same l106 l106 l106)) (.cons (.int _) (.cons (.int _) (.cons (.int _) (.cons (r105.keep s106) .nil))))
  have hd := hd.keep s106
  have hb := hb.keep s106
  have hL := same_up (o := (.tup [.int 3, .int 0, .int 1, .ref p105])) n106 _ _ hL
  generalize upd G105 p106 (.tup [.int 3, .int 0, .int 1, .ref p105]) = G106 at hd hb r106 hL ⊢
  refine ⟨L, _, _, rfl, rfl, hL, by rw [lw]; show 10 < sizeLine; decide, ?_⟩
  have e : cutH L L L (upd G106 L (.lst (ws ++ [.ref p106]))) = cutH L L L G106 := cut_put
  exact useN _ _ _ _ _ _ _ _ _ L _ _ upd_same (by rw [e]; exact hd.app (.cons r106 .nil)) (by rw [e]; exact hb)
theorem law_b5 {f C CX fWr fRt fI fLt fEq fXe : Addr} {fdWr fdRt fdI fdLt fdEq fdXe : FuncData}
(T : Txt8 K mg)
    (GWr : FnOk P w K mg base CX0 4 fWr fdWr ["_law_plan"] (spWrong K)) (gWr : mg "_law_wrong" = some (.ref fWr)) (kWr : PySem.W.keepIn K (.ref fWr) = true) (bWr : Binds K fdWr ["_law_plan"] [])
    (GRt : FnG P w K mg base CX0 9 fRt fdRt ["_law_plan", "_law_mate"] (spRight K)) (gRt : mg "_law_right" = some (.ref fRt)) (kRt : PySem.W.keepIn K (.ref fRt) = true) (bRt : Binds K fdRt ["_law_plan", "_law_mate"] [])
    (gM : mg "Machine" = some (.ref C)) (MK : Mk K C fI) (bI : Binds K fdI ["self", "size", "first", "last", "moves"] []) (GI : FnOk P w K mg base CX0 6 fI fdI ["self", "size", "first", "last", "moves"] (spInit K C))
    (GLt : FnOk P w K mg base CX0 5 fLt fdLt ["sign"] (spXLet K CX)) (gLt : mg "letter" = some (.ref fLt)) (kLt : PySem.W.keepIn K (.ref fLt) = true) (bLt : Binds K fdLt ["sign"] [])
    (GEn : FnOk P w K mg base CX0 1 fEq fdEq ["self", "other"] (spEqN K C)) (sEq : PySem.W.findIn K (.ref C) "__eq__" = some (some (.ref fEq))) (nEq : PySem.W.isFn K (.ref fEq) = true) (bEq : Binds K fdEq ["self", "other"] [])
    (GXe : FnOk P w K mg base CX0 1 fXe fdXe ["self", "other"] (spXEq K CX)) (sXe : PySem.W.findIn K (.ref CX) "__eq__" = some (some (.ref fXe))) (nXe : PySem.W.isFn K (.ref fXe) = true) (bXe : Binds K fdXe ["self", "other"] [])
    (hmo : PySem.W.mroIn K C (.type "object") = some true) (hne : PySem.W.findIn K (.ref C) "__ne__" = some (some (.builtin "object.__ne__")))
    (nfX : PySem.W.notFirst K C (.ref CX) = true) (nfM : PySem.W.notFirst K CX (.ref C) = true) (kXM : PySem.W.kitOne K (.ref CX) (.ref C) = some false) (kMX : PySem.W.kitOne K (.ref C) (.ref CX) = some false) (IC : C8.InsC K C) (IX : C8.InsC K CX)
    {cdv : Value} {A : Around} {outer : List Env} {s : Shared} {H0 : Hp} {E : XK} {Q : VK} (hgd : A.guards = some []) (hr : Room 9 (A.deeper (envOfC "law" (defScope sLaw2) s.heap.objs.size f cdv))) (k : ∀ H', Q (.bl true) H') :
    ∃ t, PSs (cxOf CX0 P w K mg base N2 "law" (defScope sLaw2) f cdv A outer s H0 E).nox ((defBody sLaw2).drop 5) t ∧ StB K Q 9 t := by
  have hr1 : Room 1 _ := hr.mono (by decide)
  have hr2 : Room 2 _ := hr.mono (by decide)
  have hr4 : Room 3 _ := hr.mono (by decide)
  have hr4w : Room 4 _ := hr.mono (by decide)
  have hr5 : Room 5 _ := hr.mono (by decide)
  have hr7 : Room 7 _ := hr.mono (by decide)
  have hr9 : Room 9 _ := hr
  obtain ⟨tN, hN, useN⟩ := law_b6 (f := f) (cdv := cdv) (A := A) (outer := outer) (s := s) (H0 := H0) (E := E) (Q := Q) T GWr gWr kWr bWr GRt gRt kRt bRt gM MK bI GI GLt gLt kLt bLt GEn sEq nEq bEq GXe sXe nXe bXe hmo hne nfX nfM kXM kMX IC IX hgd hr k
  refine ⟨_, (pss_cons (ps_expr (pe_bm PySem.F.plainAttrs_list PySem.F.slot_list_append PySem.F.type_list_append mt_append (pv 8) (pa_cons (pe_tup (pa_cons pe_int (pa_cons pe_int (pa_cons pe_int (pa_cons (pe_tup (pa_cons (pe_tup (pa_cons pe_int (pa_cons pe_str (pa_cons pe_int pa_nil)))) (pa_cons (pe_tup (pa_cons pe_int (pa_cons pe_str (pa_cons pe_int pa_nil)))) pa_nil))) pa_nil))))) pa_nil))) hN), fun x0 x1 x2 x3 x4 x5 x6 x9 p2 L ws H hL hd hb => ?_⟩
  have lw : ws.length = 9 := hd.length
  refine ⟨_, rfl, .inl ⟨rfl, _, SqL.of hL⟩, ?_⟩
  refine ⟨by show 3 ≤ sizeLine; decide, fun p101 n101 => ?_⟩
  have s101 := cut_ex (d := L) (g := L) (b := L) (same_up (o := (.tup [.int 0, .str "a", .int 1])) n101)
  have l101 : p101 ≠ L := (ne_of_none hL n101).symm
  have r101 : Dr K (cutH L L L (upd H p101 (.tup [.int 0, .str "a", .int 1]))) (.ref p101) (.tuple [.int 0, .str "a", .int 1]) := .tup (SqT.of (cut_at upd_same l101 l101 l101)) (.cons (.int _) (.cons (.str _) (.cons (.int _) .nil)))
  have hd := hd.keep s101
  have hb := hb.keep s101
  have hL := same_up (o := (.tup [.int 0, .str "a", .int 1])) n101 _ _ hL
  generalize upd H p101 (.tup [.int 0, .str "a", .int 1]) = G101 at hd hb r101 hL ⊢
  refine ⟨by show 3 ≤ sizeLine; decide, fun p102 n102 => ?_⟩
  have s102 := cut_ex (d := L) (g := L) (b := L) (same_up (o := (.tup [.int 1, .str "a", .int 1])) n102)
  have l102 : p102 ≠ L := (ne_of_none hL n102).symm
  have r102 : Dr K (cutH L L L (upd G101 p102 (.tup [.int 1, .str "a", .int 1]))) (.ref p102) (.tuple [.int 1, .str "a", .int 1]) := .tup (SqT.of (cut_at upd_same l102 l102 l102)) (.cons (.int _) (.cons (.str _) (.cons (.int _) .nil)))
  have r101 := r101.keep s102
  have hd := hd.keep s102
  have hb := hb.keep s102
  have hL := same_up (o := (.tup [.int 1, .str "a", .int 1])) n102 _ _ hL
  generalize upd G101 p102 (.tup [.int 1, .str "a", .int 1]) = G102 at r101 hd hb r102 hL ⊢
  refine ⟨by show 2 ≤ sizeLine; decide, fun p103 n103 => ?_⟩
  have s103 := cut_ex (d := L) (g := L) (b := L) (same_up (o := (.tup [.ref p101, .ref p102])) n103)
  have l103 : p103 ≠ L := (ne_of_none hL n103).symm
  have r103 : Dr K (cutH L L L (upd G102 p103 (.tup [.ref p101, .ref p102]))) (.ref p103) (.tuple [(.tuple [.int 0, .str "a", .int 1]), (.tuple [.int 1, .str "a", .int 1])]) := .tup (SqT.of (cut_at upd_same l103 l103 l103)) (.cons (r101.keep s103) (.cons (r102.keep s103) .nil))
  have hd := hd.keep s103
  have hb := hb.keep s103
  have hL := same_up (o := (.tup [.ref p101, .ref p102])) n103 _ _ hL
  generalize upd G102 p103 (.tup [.ref p101, .ref p102]) = G103 at hd hb r103 hL ⊢
  refine ⟨by show 4 ≤ sizeLine; decide, fun p104 n104 => ?_⟩
  have s104 := cut_ex (d := L) (g := L) (b := L) (same_up (o := (.tup [.int 2, .int 0, .int 1, .ref p103])) n104)
  have l104 : p104 ≠ L := (ne_of_none hL n104).symm
  have r104 : Dr K (cutH L L L (upd G103 p104 (.tup [.int 2, .int 0, .int 1, .ref p103]))) (.ref p104) (.tuple [.int 2, .int 0, .int 1, (.tuple [(.tuple [.int 0, .str "a", .int 1]), (.tuple [.int 1, .str "a", .int 1])])]) := .tup (SqT.of (cut_at upd_same l104 l104 l104)) (.cons (.int _) (.cons (.int _) (.cons (.int _) (.cons (r103.keep s104) .nil))))
  have hd := hd.keep s104
  have hb := hb.keep s104
  have hL := same_up (o := (.tup [.int 2, .int 0, .int 1, .ref p103])) n104 _ _ hL
  generalize upd G103 p104 (.tup [.int 2, .int 0, .int 1, .ref p103]) = G104 at hd hb r104 hL ⊢
  refine ⟨L, _, _, rfl, rfl, hL, by rw [lw]; show 9 < sizeLine; decide, ?_⟩
  have e : cutH L L L (upd G104 L (.lst (ws ++ [.ref p104]))) = cutH L L L G104 := cut_put
  exact useN _ _ _ _ _ _ _ _ _ L _ _ upd_same (by rw [e]; exact hd.app (.cons r104 .nil)) (by rw [e]; exact hb)
theorem law_b4 {f C CX fWr fRt fI fLt fEq fXe : Addr} {fdWr fdRt fdI fdLt fdEq fdXe : FuncData}
(T : Txt8 K mg)
    (GWr : FnOk P w K mg base CX0 4 fWr fdWr ["_law_plan"] (spWrong K)) (gWr : mg "_law_wrong" = some (.ref fWr)) (kWr : PySem.W.keepIn K (.ref fWr) = true) (bWr : Binds K fdWr ["_law_plan"] [])
    (GRt : FnG P w K mg base CX0 9 fRt fdRt ["_law_plan", "_law_mate"] (spRight K)) (gRt : mg "_law_right" = some (.ref fRt)) (kRt : PySem.W.keepIn K (.ref fRt) = true) (bRt : Binds K fdRt ["_law_plan", "_law_mate"] [])
    (gM : mg "Machine" = some (.ref C)) (MK : Mk K C fI) (bI : Binds K fdI ["self", "size", "first", "last", "moves"] []) (GI : FnOk P w K mg base CX0 6 fI fdI ["self", "size", "first", "last", "moves"] (spInit K C))
    (GLt : FnOk P w K mg base CX0 5 fLt fdLt ["sign"] (spXLet K CX)) (gLt : mg "letter" = some (.ref fLt)) (kLt : PySem.W.keepIn K (.ref fLt) = true) (bLt : Binds K fdLt ["sign"] [])
    (GEn : FnOk P w K mg base CX0 1 fEq fdEq ["self", "other"] (spEqN K C)) (sEq : PySem.W.findIn K (.ref C) "__eq__" = some (some (.ref fEq))) (nEq : PySem.W.isFn K (.ref fEq) = true) (bEq : Binds K fdEq ["self", "other"] [])
    (GXe : FnOk P w K mg base CX0 1 fXe fdXe ["self", "other"] (spXEq K CX)) (sXe : PySem.W.findIn K (.ref CX) "__eq__" = some (some (.ref fXe))) (nXe : PySem.W.isFn K (.ref fXe) = true) (bXe : Binds K fdXe ["self", "other"] [])
    (hmo : PySem.W.mroIn K C (.type "object") = some true) (hne : PySem.W.findIn K (.ref C) "__ne__" = some (some (.builtin "object.__ne__")))
    (nfX : PySem.W.notFirst K C (.ref CX) = true) (nfM : PySem.W.notFirst K CX (.ref C) = true) (kXM : PySem.W.kitOne K (.ref CX) (.ref C) = some false) (kMX : PySem.W.kitOne K (.ref C) (.ref CX) = some false) (IC : C8.InsC K C) (IX : C8.InsC K CX)
    {cdv : Value} {A : Around} {outer : List Env} {s : Shared} {H0 : Hp} {E : XK} {Q : VK} (hgd : A.guards = some []) (hr : Room 9 (A.deeper (envOfC "law" (defScope sLaw2) s.heap.objs.size f cdv))) (k : ∀ H', Q (.bl true) H') :
    ∃ t, PSs (cxOf CX0 P w K mg base N2 "law" (defScope sLaw2) f cdv A outer s H0 E).nox ((defBody sLaw2).drop 4) t ∧ StB K Q 7 t := by
  have hr1 : Room 1 _ := hr.mono (by decide)
  have hr2 : Room 2 _ := hr.mono (by decide)
  have hr4 : Room 3 _ := hr.mono (by decide)
  have hr4w : Room 4 _ := hr.mono (by decide)
  have hr5 : Room 5 _ := hr.mono (by decide)
  have hr7 : Room 7 _ := hr.mono (by decide)
  have hr9 : Room 9 _ := hr
  obtain ⟨tN, hN, useN⟩ := law_b5 (f := f) (cdv := cdv) (A := A) (outer := outer) (s := s) (H0 := H0) (E := E) (Q := Q) T GWr gWr kWr bWr GRt gRt kRt bRt gM MK bI GI GLt gLt kLt bLt GEn sEq nEq bEq GXe sXe nXe bXe hmo hne nfX nfM kXM kMX IC IX hgd hr k
  refine ⟨_, (pss_cons (ps_set (i := 8) sc2.nd rfl (.inl rfl) (pe_op op_cat (pv 8) (pe_lstN (pa_cons (pe_tup (pa_cons pe_int (pa_cons pe_int (pa_cons pe_int (pa_cons (pe_tup (pa_cons (pe_tup (pa_cons pe_int (pa_cons pe_str (pa_cons pe_int pa_nil)))) (pa_cons (pe_tup (pa_cons pe_int (pa_cons pe_str (pa_cons pe_int pa_nil)))) pa_nil))) pa_nil))))) (pa_cons (pe_tup (pa_cons pe_int (pa_cons pe_int (pa_cons pe_int (pa_cons (pe_tup (pa_cons (pe_tup (pa_cons pe_int (pa_cons pe_str (pa_cons pe_int pa_nil)))) (pa_cons (pe_tup (pa_cons pe_int (pa_cons pe_str (pa_cons pe_int pa_nil)))) pa_nil))) pa_nil))))) pa_nil))))) hN), fun x0 x1 x2 x3 x4 x5 x6 x9 p2 L ws H hL hd hb => ?_⟩
  have lw : ws.length = 7 := hd.length
  refine ⟨_, rfl, ?_⟩
  refine ⟨by show 3 ≤ sizeLine; decide, fun p101 n101 => ?_⟩
  have s101 := cut_ex (d := L) (g := L) (b := L) (same_up (o := (.tup [.int 0, .str "a", .int 1])) n101)
  have l101 : p101 ≠ L := (ne_of_none hL n101).symm
  have r101 : Dr K (cutH L L L (upd H p101 (.tup [.int 0, .str "a", .int 1]))) (.ref p101) (.tuple [.int 0, .str "a", .int 1]) := .tup (SqT.of (cut_at upd_same l101 l101 l101)) (.cons (.int _) (.cons (.str _) (.cons (.int _) .nil)))
  have hd := hd.keep s101
  have hb := hb.keep s101
  have hL := same_up (o := (.tup [.int 0, .str "a", .int 1])) n101 _ _ hL
  generalize upd H p101 (.tup [.int 0, .str "a", .int 1]) = G101 at hd hb r101 hL ⊢
  refine ⟨by show 3 ≤ sizeLine; decide, fun p102 n102 => ?_⟩
  have s102 := cut_ex (d := L) (g := L) (b := L) (same_up (o := (.tup [.int 0, .str "a", .int 0])) n102)
  have l102 : p102 ≠ L := (ne_of_none hL n102).symm
  have r102 : Dr K (cutH L L L (upd G101 p102 (.tup [.int 0, .str "a", .int 0]))) (.ref p102) (.tuple [.int 0, .str "a", .int 0]) := .tup (SqT.of (cut_at upd_same l102 l102 l102)) (.cons (.int _) (.cons (.str _) (.cons (.int _) .nil)))
  have r101 := r101.keep s102
  have hd := hd.keep s102
  have hb := hb.keep s102
  have hL := same_up (o := (.tup [.int 0, .str "a", .int 0])) n102 _ _ hL
  generalize upd G101 p102 (.tup [.int 0, .str "a", .int 0]) = G102 at r101 hd hb r102 hL ⊢
  refine ⟨by show 2 ≤ sizeLine; decide, fun p103 n103 => ?_⟩
  have s103 := cut_ex (d := L) (g := L) (b := L) (same_up (o := (.tup [.ref p101, .ref p102])) n103)
  have l103 : p103 ≠ L := (ne_of_none hL n103).symm
  have r103 : Dr K (cutH L L L (upd G102 p103 (.tup [.ref p101, .ref p102]))) (.ref p103) (.tuple [(.tuple [.int 0, .str "a", .int 1]), (.tuple [.int 0, .str "a", .int 0])]) := .tup (SqT.of (cut_at upd_same l103 l103 l103)) (.cons (r101.keep s103) (.cons (r102.keep s103) .nil))
  have hd := hd.keep s103
  have hb := hb.keep s103
  have hL := same_up (o := (.tup [.ref p101, .ref p102])) n103 _ _ hL
  generalize upd G102 p103 (.tup [.ref p101, .ref p102]) = G103 at hd hb r103 hL ⊢
  refine ⟨by show 4 ≤ sizeLine; decide, fun p104 n104 => ?_⟩
  have s104 := cut_ex (d := L) (g := L) (b := L) (same_up (o := (.tup [.int 2, .int 0, .int 1, .ref p103])) n104)
  have l104 : p104 ≠ L := (ne_of_none hL n104).symm
  have r104 : Dr K (cutH L L L (upd G103 p104 (.tup [.int 2, .int 0, .int 1, .ref p103]))) (.ref p104) (.tuple [.int 2, .int 0, .int 1, (.tuple [(.tuple [.int 0, .str "a", .int 1]), (.tuple [.int 0, .str "a", .int 0])])]) := .tup (SqT.of (cut_at upd_same l104 l104 l104)) (.cons (.int _) (.cons (.int _) (.cons (.int _) (.cons (r103.keep s104) .nil))))
  have hd := hd.keep s104
  have hb := hb.keep s104
  have hL := same_up (o := (.tup [.int 2, .int 0, .int 1, .ref p103])) n104 _ _ hL
  generalize upd G103 p104 (.tup [.int 2, .int 0, .int 1, .ref p103]) = G104 at hd hb r104 hL ⊢
  refine ⟨by show 3 ≤ sizeLine; decide, fun p105 n105 => ?_⟩
  have s105 := cut_ex (d := L) (g := L) (b := L) (same_up (o := (.tup [.int 0, .str "a", .int 0])) n105)
  have l105 : p105 ≠ L := (ne_of_none hL n105).symm
  have r105 : Dr K (cutH L L L (upd G104 p105 (.tup [.int 0, .str "a", .int 0]))) (.ref p105) (.tuple [.int 0, .str "a", .int 0]) := .tup (SqT.of (cut_at upd_same l105 l105 l105)) (.cons (.int _) (.cons (.str _) (.cons (.int _) .nil)))
  have r104 := r104.keep s105
  have hd := hd.keep s105
  have hb := hb.keep s105
  have hL := same_up (o := (.tup [.int 0, .str "a", .int 0])) n105 _ _ hL
  generalize upd G104 p105 (.tup [.int 0, .str "a", .int 0]) = G105 at r104 hd hb r105 hL ⊢
  refine ⟨by show 3 ≤ sizeLine; decide, fun p106 n106 => ?_⟩
  have s106 := cut_ex (d := L) (g := L) (b := L) (same_up (o := (.tup [.int 0, .str "a", .int 1])) n106)
  have l106 : p106 ≠ L := (ne_of_none hL n106).symm
  have r106 : Dr K (cutH L L L (upd G105 p106 (.tup [.int 0, .str "a", .int 1]))) (.ref p106) (.tuple [.int 0, .str "a", .int 1]) := .tup (SqT.of (cut_at upd_same l106 l106 l106)) (.cons (.int _) (.cons (.str _) (.cons (.int _) .nil)))
  have r104 := r104.keep s106
  have r105 := r105.keep s106
  have hd := hd.keep s106
  have hb := hb.keep s106
  have hL := same_up (o := (.tup [.int 0, .str "a", .int 1])) n106 _ _ hL
  generalize upd G105 p106 (.tup [.int 0, .str "a", .int 1]) = G106 at r104 r105 hd hb r106 hL ⊢
  refine ⟨by show 2 ≤ sizeLine; decide, fun p107 n107 => ?_⟩
  have s107 := cut_ex (d := L) (g := L) (b := L) (same_up (o := (.tup [.ref p105, .ref p106])) n107)
  have l107 : p107 ≠ L := (ne_of_none hL n107).symm
  have r107 : Dr K (cutH L L L (upd G106 p107 (.tup [.ref p105, .ref p106]))) (.ref p107) (.tuple [(.tuple [.int 0, .str "a", .int 0]), (.tuple [.int 0, .str "a", .int 1])]) := .tup (SqT.of (cut_at upd_same l107 l107 l107)) (.cons (r105.keep s107) (.cons (r106.keep s107) .nil))
  have r104 := r104.keep s107
  have hd := hd.keep s107
  have hb := hb.keep s107
  have hL := same_up (o := (.tup [.ref p105, .ref p106])) n107 _ _ hL
  generalize upd G106 p107 (.tup [.ref p105, .ref p106]) = G107 at r104 hd hb r107 hL ⊢
  refine ⟨by show 4 ≤ sizeLine; decide, fun p108 n108 => ?_⟩
  have s108 := cut_ex (d := L) (g := L) (b := L) (same_up (o := (.tup [.int 2, .int 0, .int 1, .ref p107])) n108)
  have l108 : p108 ≠ L := (ne_of_none hL n108).symm
  have r108 : Dr K (cutH L L L (upd G107 p108 (.tup [.int 2, .int 0, .int 1, .ref p107]))) (.ref p108) (.tuple [.int 2, .int 0, .int 1, (.tuple [(.tuple [.int 0, .str "a", .int 0]), (.tuple [.int 0, .str "a", .int 1])])]) := .tup (SqT.of (cut_at upd_same l108 l108 l108)) (.cons (.int _) (.cons (.int _) (.cons (.int _) (.cons (r107.keep s108) .nil))))
  have r104 := r104.keep s108
  have hd := hd.keep s108
  have hb := hb.keep s108
  have hL := same_up (o := (.tup [.int 2, .int 0, .int 1, .ref p107])) n108 _ _ hL
  generalize upd G107 p108 (.tup [.int 2, .int 0, .int 1, .ref p107]) = G108 at r104 hd hb r108 hL ⊢
  refine ⟨by show 2 ≤ sizeLine; decide, fun p109 n109 m109 => ?_⟩
  have s109 := cut_ex (d := L) (g := L) (b := L) (same_up (o := (.lst [.ref p104, .ref p108])) n109)
  have l109 : p109 ≠ L := (ne_of_none hL n109).symm
  have r104 := r104.keep s109
  have r108 := r108.keep s109
  have hd := hd.keep s109
  have hb := hb.keep s109
  have hL := same_up (o := (.lst [.ref p104, .ref p108])) n109 _ _ hL
  have hM : upd G108 p109 (.lst [.ref p104, .ref p108]) p109 = some (.lst [.ref p104, .ref p108]) := upd_same
  generalize upd G108 p109 (.lst [.ref p104, .ref p108]) = G109 at r104 r108 hd hb hM hL ⊢
  refine ⟨L, p109, _, _, rfl, rfl, hL, hM, by rw [lw]; show 9 ≤ sizeLine; decide, fun Z nZ => ?_⟩
  have hd := hd.keep (cut_same.trans (cut_fresh (o := (.lst (ws ++ [.ref p104, .ref p108]))) nZ))
  have hb := hb.keep (cut_same.trans (cut_fresh (o := (.lst (ws ++ [.ref p104, .ref p108]))) nZ))
  have r104 := r104.keep (cut_same.trans (cut_fresh (o := (.lst (ws ++ [.ref p104, .ref p108]))) nZ))
  have r108 := r108.keep (cut_same.trans (cut_fresh (o := (.lst (ws ++ [.ref p104, .ref p108]))) nZ))
  exact useN _ _ _ _ _ _ _ _ _ Z _ _ upd_same (hd.app (.cons r104 (.cons r108 .nil))) hb
theorem law_b2 {f C CX fWr fRt fI fLt fEq fXe : Addr} {fdWr fdRt fdI fdLt fdEq fdXe : FuncData}
(T : Txt8 K mg)
    (GWr : FnOk P w K mg base CX0 4 fWr fdWr ["_law_plan"] (spWrong K)) (gWr : mg "_law_wrong" = some (.ref fWr)) (kWr : PySem.W.keepIn K (.ref fWr) = true) (bWr : Binds K fdWr ["_law_plan"] [])
    (GRt : FnG P w K mg base CX0 9 fRt fdRt ["_law_plan", "_law_mate"] (spRight K)) (gRt : mg "_law_right" = some (.ref fRt)) (kRt : PySem.W.keepIn K (.ref fRt) = true) (bRt : Binds K fdRt ["_law_plan", "_law_mate"] [])
    (gM : mg "Machine" = some (.ref C)) (MK : Mk K C fI) (bI : Binds K fdI ["self", "size", "first", "last", "moves"] []) (GI : FnOk P w K mg base CX0 6 fI fdI ["self", "size", "first", "last", "moves"] (spInit K C))
    (GLt : FnOk P w K mg base CX0 5 fLt fdLt ["sign"] (spXLet K CX)) (gLt : mg "letter" = some (.ref fLt)) (kLt : PySem.W.keepIn K (.ref fLt) = true) (bLt : Binds K fdLt ["sign"] [])
    (GEn : FnOk P w K mg base CX0 1 fEq fdEq ["self", "other"] (spEqN K C)) (sEq : PySem.W.findIn K (.ref C) "__eq__" = some (some (.ref fEq))) (nEq : PySem.W.isFn K (.ref fEq) = true) (bEq : Binds K fdEq ["self", "other"] [])
    (GXe : FnOk P w K mg base CX0 1 fXe fdXe ["self", "other"] (spXEq K CX)) (sXe : PySem.W.findIn K (.ref CX) "__eq__" = some (some (.ref fXe))) (nXe : PySem.W.isFn K (.ref fXe) = true) (bXe : Binds K fdXe ["self", "other"] [])
    (hmo : PySem.W.mroIn K C (.type "object") = some true) (hne : PySem.W.findIn K (.ref C) "__ne__" = some (some (.builtin "object.__ne__")))
    (nfX : PySem.W.notFirst K C (.ref CX) = true) (nfM : PySem.W.notFirst K CX (.ref C) = true) (kXM : PySem.W.kitOne K (.ref CX) (.ref C) = some false) (kMX : PySem.W.kitOne K (.ref C) (.ref CX) = some false) (IC : C8.InsC K C) (IX : C8.InsC K CX)
    {cdv : Value} {A : Around} {outer : List Env} {s : Shared} {H0 : Hp} {E : XK} {Q : VK} (hgd : A.guards = some []) (hr : Room 9 (A.deeper (envOfC "law" (defScope sLaw2) s.heap.objs.size f cdv))) (k : ∀ H', Q (.bl true) H') :
    ∃ t, PSs (cxOf CX0 P w K mg base N2 "law" (defScope sLaw2) f cdv A outer s H0 E).nox ((defBody sLaw2).drop 2) t ∧ ∀ (x0 x1 x2 x3 x4 x5 x6 x7 x8 x9 : Option V) (H : Hp), t { nx := fun _ H' => Q .non H', rt := Q } [x0, x1, x2, x3, x4, x5, x6, x7, x8, x9] H := by
  have hr1 : Room 1 _ := hr.mono (by decide)
  have hr2 : Room 2 _ := hr.mono (by decide)
  have hr4 : Room 3 _ := hr.mono (by decide)
  have hr4w : Room 4 _ := hr.mono (by decide)
  have hr5 : Room 5 _ := hr.mono (by decide)
  have hr7 : Room 7 _ := hr.mono (by decide)
  have hr9 : Room 9 _ := hr
  obtain ⟨tN, hN, useN⟩ := law_b4 (f := f) (cdv := cdv) (A := A) (outer := outer) (s := s) (H0 := H0) (E := E) (Q := Q) T GWr gWr kWr bWr GRt gRt kRt bRt gM MK bI GI GLt gLt kLt bLt GEn sEq nEq bEq GXe sXe nXe bXe hmo hne nfX nfM kXM kMX IC IX hgd hr k
  refine ⟨_, (pss_cons (ps_set (i := 7) sc2.nd rfl (.inr rfl) (pe_tup (pa_cons pe_int (pa_cons pe_int (pa_cons pe_int (pa_cons (pe_tup pa_nil) pa_nil)))))) (pss_cons (ps_set (i := 8) sc2.nd rfl (.inl rfl) (pe_lstN (pa_cons (pv 7) (pa_cons (pe_tup (pa_cons pe_bl (pa_cons pe_int (pa_cons pe_int (pa_cons (pe_tup pa_nil) pa_nil))))) (pa_cons (pe_tup (pa_cons pe_int (pa_cons pe_int (pa_cons pe_int (pa_cons (pe_tup pa_nil) pa_nil))))) (pa_cons (pe_tup (pa_cons pe_int (pa_cons pe_int (pa_cons pe_int (pa_cons (pe_tup pa_nil) pa_nil))))) (pa_cons (pe_tup (pa_cons pe_int (pa_cons pe_int (pa_cons pe_int (pa_cons (pe_tup pa_nil) pa_nil))))) (pa_cons (pe_tup (pa_cons pe_int (pa_cons pe_int (pa_cons pe_int (pa_cons (pe_lstN pa_nil) pa_nil))))) (pa_cons (pe_tup (pa_cons pe_int (pa_cons pe_int (pa_cons pe_int (pa_cons pe_non pa_nil))))) pa_nil))))))))) hN)), fun x0 x1 x2 x3 x4 x5 x6 x7 x8 x9 H => ?_⟩
  refine ⟨by show 0 ≤ sizeLine; decide, fun p1 n1 => ?_⟩
  have s1 := same_up (o := (.tup [])) n1
  have r1 : Dr K (upd H p1 (.tup [])) (.ref p1) (.tuple []) := .tup (SqT.of upd_same) .nil
  generalize upd H p1 (.tup []) = G1 at r1 ⊢
  refine ⟨by show 4 ≤ sizeLine; decide, fun p2 n2 => ?_⟩
  have s2 := same_up (o := (.tup [.int 1, .int 0, .int 0, .ref p1])) n2
  have r2 : Dr K (upd G1 p2 (.tup [.int 1, .int 0, .int 0, .ref p1])) (.ref p2) (.tuple [.int 1, .int 0, .int 0, (.tuple [])]) := .tup (SqT.of upd_same) (.cons (.int _) (.cons (.int _) (.cons (.int _) (.cons (r1.keep s2) .nil))))
  have r1 := r1.keep s2
  generalize upd G1 p2 (.tup [.int 1, .int 0, .int 0, .ref p1]) = G2 at r1 r2 ⊢
  refine ⟨_, rfl, ?_⟩
  refine ⟨by show 0 ≤ sizeLine; decide, fun p3 n3 => ?_⟩
  have s3 := same_up (o := (.tup [])) n3
  have r3 : Dr K (upd G2 p3 (.tup [])) (.ref p3) (.tuple []) := .tup (SqT.of upd_same) .nil
  have r1 := r1.keep s3
  have r2 := r2.keep s3
  generalize upd G2 p3 (.tup []) = G3 at r1 r2 r3 ⊢
  refine ⟨by show 4 ≤ sizeLine; decide, fun p4 n4 => ?_⟩
  have s4 := same_up (o := (.tup [.bl true, .int 0, .int 0, .ref p3])) n4
  have r4 : Dr K (upd G3 p4 (.tup [.bl true, .int 0, .int 0, .ref p3])) (.ref p4) (.tuple [.bool true, .int 0, .int 0, (.tuple [])]) := .tup (SqT.of upd_same) (.cons (.bl _) (.cons (.int _) (.cons (.int _) (.cons (r3.keep s4) .nil))))
  have r1 := r1.keep s4
  have r2 := r2.keep s4
  generalize upd G3 p4 (.tup [.bl true, .int 0, .int 0, .ref p3]) = G4 at r1 r2 r4 ⊢
  refine ⟨by show 0 ≤ sizeLine; decide, fun p5 n5 => ?_⟩
  have s5 := same_up (o := (.tup [])) n5
  have r5 : Dr K (upd G4 p5 (.tup [])) (.ref p5) (.tuple []) := .tup (SqT.of upd_same) .nil
  have r1 := r1.keep s5
  have r2 := r2.keep s5
  have r4 := r4.keep s5
  generalize upd G4 p5 (.tup []) = G5 at r1 r2 r4 r5 ⊢
  refine ⟨by show 4 ≤ sizeLine; decide, fun p6 n6 => ?_⟩
  have s6 := same_up (o := (.tup [.int 0, .int 0, .int 0, .ref p5])) n6
  have r6 : Dr K (upd G5 p6 (.tup [.int 0, .int 0, .int 0, .ref p5])) (.ref p6) (.tuple [.int 0, .int 0, .int 0, (.tuple [])]) := .tup (SqT.of upd_same) (.cons (.int _) (.cons (.int _) (.cons (.int _) (.cons (r5.keep s6) .nil))))
  have r1 := r1.keep s6
  have r2 := r2.keep s6
  have r4 := r4.keep s6
  generalize upd G5 p6 (.tup [.int 0, .int 0, .int 0, .ref p5]) = G6 at r1 r2 r4 r6 ⊢
  refine ⟨by show 0 ≤ sizeLine; decide, fun p7 n7 => ?_⟩
  have s7 := same_up (o := (.tup [])) n7
  have r7 : Dr K (upd G6 p7 (.tup [])) (.ref p7) (.tuple []) := .tup (SqT.of upd_same) .nil
  have r1 := r1.keep s7
  have r2 := r2.keep s7
  have r4 := r4.keep s7
  have r6 := r6.keep s7
  generalize upd G6 p7 (.tup []) = G7 at r1 r2 r4 r6 r7 ⊢
  refine ⟨by show 4 ≤ sizeLine; decide, fun p8 n8 => ?_⟩
  have s8 := same_up (o := (.tup [.int 1000, .int 0, .int 0, .ref p7])) n8
  have r8 : Dr K (upd G7 p8 (.tup [.int 1000, .int 0, .int 0, .ref p7])) (.ref p8) (.tuple [.int 1000, .int 0, .int 0, (.tuple [])]) := .tup (SqT.of upd_same) (.cons (.int _) (.cons (.int _) (.cons (.int _) (.cons (r7.keep s8) .nil))))
  have r1 := r1.keep s8
  have r2 := r2.keep s8
  have r4 := r4.keep s8
  have r6 := r6.keep s8
  generalize upd G7 p8 (.tup [.int 1000, .int 0, .int 0, .ref p7]) = G8 at r1 r2 r4 r6 r8 ⊢
  refine ⟨by show 0 ≤ sizeLine; decide, fun p9 n9 => ?_⟩
  have s9 := same_up (o := (.tup [])) n9
  have r9 : Dr K (upd G8 p9 (.tup [])) (.ref p9) (.tuple []) := .tup (SqT.of upd_same) .nil
  have r1 := r1.keep s9
  have r2 := r2.keep s9
  have r4 := r4.keep s9
  have r6 := r6.keep s9
  have r8 := r8.keep s9
  generalize upd G8 p9 (.tup []) = G9 at r1 r2 r4 r6 r8 r9 ⊢
  refine ⟨by show 4 ≤ sizeLine; decide, fun p10 n10 => ?_⟩
  have s10 := same_up (o := (.tup [.int 2, .int 0, .int 0, .ref p9])) n10
  have r10 : Dr K (upd G9 p10 (.tup [.int 2, .int 0, .int 0, .ref p9])) (.ref p10) (.tuple [.int 2, .int 0, .int 0, (.tuple [])]) := .tup (SqT.of upd_same) (.cons (.int _) (.cons (.int _) (.cons (.int _) (.cons (r9.keep s10) .nil))))
  have r1 := r1.keep s10
  have r2 := r2.keep s10
  have r4 := r4.keep s10
  have r6 := r6.keep s10
  have r8 := r8.keep s10
  generalize upd G9 p10 (.tup [.int 2, .int 0, .int 0, .ref p9]) = G10 at r1 r2 r4 r6 r8 r10 ⊢
  refine ⟨by show 0 ≤ sizeLine; decide, fun p11 n11 m11 => ?_⟩
  have s11 := same_up (o := (.lst [])) n11
  have r11 : Dr K (upd G10 p11 (.lst [])) (.ref p11) (.list []) := .lst m11 (SqL.of upd_same) .nil
  have r1 := r1.keep s11
  have r2 := r2.keep s11
  have r4 := r4.keep s11
  have r6 := r6.keep s11
  have r8 := r8.keep s11
  have r10 := r10.keep s11
  generalize upd G10 p11 (.lst []) = G11 at r1 r2 r4 r6 r8 r10 r11 ⊢
  refine ⟨by show 4 ≤ sizeLine; decide, fun p12 n12 => ?_⟩
  have s12 := same_up (o := (.tup [.int 2, .int 2, .int 5, .ref p11])) n12
  have r12 : Dr K (upd G11 p12 (.tup [.int 2, .int 2, .int 5, .ref p11])) (.ref p12) (.tuple [.int 2, .int 2, .int 5, (.list [])]) := .tup (SqT.of upd_same) (.cons (.int _) (.cons (.int _) (.cons (.int _) (.cons (r11.keep s12) .nil))))
  have r1 := r1.keep s12
  have r2 := r2.keep s12
  have r4 := r4.keep s12
  have r6 := r6.keep s12
  have r8 := r8.keep s12
  have r10 := r10.keep s12
  generalize upd G11 p12 (.tup [.int 2, .int 2, .int 5, .ref p11]) = G12 at r1 r2 r4 r6 r8 r10 r12 ⊢
  refine ⟨by show 4 ≤ sizeLine; decide, fun p13 n13 => ?_⟩
  have s13 := same_up (o := (.tup [.int 2, .int 0, .int 2, .non])) n13
  have r13 : Dr K (upd G12 p13 (.tup [.int 2, .int 0, .int 2, .non])) (.ref p13) (.tuple [.int 2, .int 0, .int 2, .none]) := .tup (SqT.of upd_same) (.cons (.int _) (.cons (.int _) (.cons (.int _) (.cons (.non) .nil))))
  have r1 := r1.keep s13
  have r2 := r2.keep s13
  have r4 := r4.keep s13
  have r6 := r6.keep s13
  have r8 := r8.keep s13
  have r10 := r10.keep s13
  have r12 := r12.keep s13
  generalize upd G12 p13 (.tup [.int 2, .int 0, .int 2, .non]) = G13 at r1 r2 r4 r6 r8 r10 r12 r13 ⊢
  refine ⟨by show 7 ≤ sizeLine; decide, fun L1 nL1 mL1 => ?_⟩
  have r2 := r2.keep (cut_fresh (o := (.lst [.ref p2, .ref p4, .ref p6, .ref p8, .ref p10, .ref p12, .ref p13])) nL1)
  have r4 := r4.keep (cut_fresh (o := (.lst [.ref p2, .ref p4, .ref p6, .ref p8, .ref p10, .ref p12, .ref p13])) nL1)
  have r6 := r6.keep (cut_fresh (o := (.lst [.ref p2, .ref p4, .ref p6, .ref p8, .ref p10, .ref p12, .ref p13])) nL1)
  have r8 := r8.keep (cut_fresh (o := (.lst [.ref p2, .ref p4, .ref p6, .ref p8, .ref p10, .ref p12, .ref p13])) nL1)
  have r10 := r10.keep (cut_fresh (o := (.lst [.ref p2, .ref p4, .ref p6, .ref p8, .ref p10, .ref p12, .ref p13])) nL1)
  have r12 := r12.keep (cut_fresh (o := (.lst [.ref p2, .ref p4, .ref p6, .ref p8, .ref p10, .ref p12, .ref p13])) nL1)
  have r13 := r13.keep (cut_fresh (o := (.lst [.ref p2, .ref p4, .ref p6, .ref p8, .ref p10, .ref p12, .ref p13])) nL1)
  exact useN _ _ _ _ _ _ _ _ p2 L1 _ _ upd_same (.cons r2 (.cons r4 (.cons r6 (.cons r8 (.cons r10 (.cons r12 (.cons r13 .nil))))))) r2
end
end Vk
set_option Elab.async false
set_option linter.all false
set_option maxRecDepth 100000
set_option maxHeartbeats 4000000
namespace Vk
open PySem PySem.Spec PyProof.Rows L2 Vt PySem.Vx Vs1 ClX
section
variable {P : Program} {w : World} {K : PySem.W.Frag} {mg : Str → Option Value} {base : Heap}
theorem ok_law2 {f C CX fDk fWo fPn fWr fRt fDr fPi fBe fI fLt fEq fXe : Addr} {fd fdDk fdWo fdPn fdWr fdRt fdDr fdPi fdBe fdI fdLt fdEq fdXe : FuncData} (F : Fun K "law" "law" sLaw2 f fd) (T : Txt8 K mg)
    (GDk : FnOk P w K mg base CX0 1 fDk fdDk ["_law_script"] (spDeck K)) (gDk : mg "_law_deck" = some (.ref fDk)) (kDk : PySem.W.keepIn K (.ref fDk) = true) (bDk : Binds K fdDk ["_law_script"] [])
    (GWo : FnOk P w K mg base CX0 3 fWo fdWo ["_law_deck_here", "_law_top", "_law_many"] (spWorld K)) (gWo : mg "_law_world" = some (.ref fWo)) (kWo : PySem.W.keepIn K (.ref fWo) = true) (bWo : Binds K fdWo ["_law_deck_here", "_law_top", "_law_many"] [])
    (GPn : FnOk P w K mg base CX0 1 fPn fdPn ["_law_w"] (spPlain K)) (gPn : mg "_law_plain" = some (.ref fPn)) (kPn : PySem.W.keepIn K (.ref fPn) = true) (bPn : Binds K fdPn ["_law_w"] [])
    (GWr : FnOk P w K mg base CX0 4 fWr fdWr ["_law_plan"] (spWrong K)) (gWr : mg "_law_wrong" = some (.ref fWr)) (kWr : PySem.W.keepIn K (.ref fWr) = true) (bWr : Binds K fdWr ["_law_plan"] [])
    (GRt : FnG P w K mg base CX0 9 fRt fdRt ["_law_plan", "_law_mate"] (spRight K)) (gRt : mg "_law_right" = some (.ref fRt)) (kRt : PySem.W.keepIn K (.ref fRt) = true) (bRt : Binds K fdRt ["_law_plan", "_law_mate"] [])
    (GDr : FnOk P w K mg base CX0 1 fDr fdDr ["_law_deck_here", "_law_below"] spDraw) (gDr : mg "_law_draw" = some (.ref fDr)) (kDr : PySem.W.keepIn K (.ref fDr) = true) (bDr : Binds K fdDr ["_law_deck_here", "_law_below"] [])
    (GPl : FnOk P w K mg base CX0 2 fPi fdPi ["_law_deck_here", "_law_menu"] (spPickL K)) (gPi : mg "_law_pick" = some (.ref fPi)) (kPi : PySem.W.keepIn K (.ref fPi) = true) (bPi : Binds K fdPi ["_law_deck_here", "_law_menu"] [])
    (GBe : FnOk P w K mg base CX0 9 fBe fdBe ["_law_deck_here", "_law_it"] (spBent K 6)) (gBe : mg "_law_bent" = some (.ref fBe)) (kBe : PySem.W.keepIn K (.ref fBe) = true) (bBe : Binds K fdBe ["_law_deck_here", "_law_it"] [])
    (gM : mg "Machine" = some (.ref C)) (MK : Mk K C fI) (bI : Binds K fdI ["self", "size", "first", "last", "moves"] []) (GI : FnOk P w K mg base CX0 6 fI fdI ["self", "size", "first", "last", "moves"] (spInit K C))
    (GLt : FnOk P w K mg base CX0 5 fLt fdLt ["sign"] (spXLet K CX)) (gLt : mg "letter" = some (.ref fLt)) (kLt : PySem.W.keepIn K (.ref fLt) = true) (bLt : Binds K fdLt ["sign"] [])
    (GEn : FnOk P w K mg base CX0 1 fEq fdEq ["self", "other"] (spEqN K C)) (sEq : PySem.W.findIn K (.ref C) "__eq__" = some (some (.ref fEq))) (nEq : PySem.W.isFn K (.ref fEq) = true) (bEq : Binds K fdEq ["self", "other"] [])
    (GXe : FnOk P w K mg base CX0 1 fXe fdXe ["self", "other"] (spXEq K CX)) (sXe : PySem.W.findIn K (.ref CX) "__eq__" = some (some (.ref fXe))) (nXe : PySem.W.isFn K (.ref fXe) = true) (bXe : Binds K fdXe ["self", "other"] [])
    (hmo : PySem.W.mroIn K C (.type "object") = some true) (hne : PySem.W.findIn K (.ref C) "__ne__" = some (some (.builtin "object.__ne__")))
    (nfX : PySem.W.notFirst K C (.ref CX) = true) (nfM : PySem.W.notFirst K CX (.ref C) = true) (kXM : PySem.W.kitOne K (.ref CX) (.ref C) = some false) (kMX : PySem.W.kitOne K (.ref C) (.ref CX) = some false) (IC : C8.InsC K C) (IX : C8.InsC K CX) :
    FnG P w K mg base CX0 10 f fd ["_law_script"] (spLaw2 K) := by
  refine okG F sc2 (fun vs H Q E h => ?_) (fun cdv A outer s H vs Q E hgd hr h => ?_)
  · obtain ⟨a, ns, rfl, _⟩ := h
    rfl
  · obtain ⟨a, ns, rfl, hS, hlen, k⟩ := h
    have hr1 : Room 1 _ := hr.mono (by decide)
    have hr2 : Room 2 _ := hr.mono (by decide)
    have hr4 : Room 3 _ := hr.mono (by decide)
    have hr4w : Room 4 _ := hr.mono (by decide)
    have hr5 : Room 5 _ := hr.mono (by decide)
    have hr7 : Room 7 _ := hr.mono (by decide)
    have hr9 : Room 9 _ := hr
    obtain ⟨tB, hB, useB⟩ := law_b2 (f := f) (cdv := cdv) (A := A) (outer := outer) (s := s) (H0 := H) (E := E) (Q := Q) T GWr gWr kWr bWr GRt gRt kRt bRt gM MK bI GI GLt gLt kLt bLt GEn sEq nEq bEq GXe sXe nXe bXe hmo hne nfX nfM kXM kMX IC IX hgd hr k
    refine ⟨_, (pss_cons (ps_set (i := 1) sc2.nd rfl (.inl rfl) (pe_call GDk hr1 rfl gDk kDk bDk .nil pass0 (pa_cons (pv 0) pa_nil)))
        (pss_cons (ps_for PassesOwn.never rfl (pi_range1 (by rfl) T.rng (pa_cons pe_int pa_nil)) (pg_name (i := 2) sc2.nd rfl (.inl rfl)) (pss_cons (ps_set (i := 3) sc2.nd rfl (.inl rfl) (pe_call GPn hr1 rfl gPn kPn bPn .nil pass0 (pa_cons (pe_call GWo hr4 rfl gWo kWo bWo .nil pass0 (pa_cons (pv 1) (pa_cons pe_int (pa_cons pe_int pa_nil)))) pa_nil)))
        (pss_cons (ps_if (PW.pt (pw_or (pt_cmpR (op_neE hr1.units) (pe_call GWr hr4w rfl gWr kWr bWr .nil pass0 (pa_cons (pv 3) pa_nil)) (pe_lstN pa_nil) (nomark _)) (pw_or1 (pt_not (pt_val (pe_callG GRt hgd hr rfl gRt kRt bRt pass0 (pa_cons (pv 3) (pa_cons (pv 3) pa_nil)))))))) (pss_one (ps_ret pe_bl)) pss_nil)
        (pss_cons (ps_set (i := 4) sc2.nd rfl (.inl rfl) (pe_callTy call_list_of (by rfl) T.lst (by decide +kernel) (pa_cons (pv 3) pa_nil)))
        (pss_cons (ps_for PassesOwn.never rfl (pi_range1 (by rfl) T.rng (pa_cons (pe_op op_add pe_int (pe_call GDr hr1 rfl gDr kDr bDr .nil pass0 (pa_cons (pv 1) (pa_cons pe_int pa_nil)))) pa_nil)) (pg_name (i := 5) sc2.nd rfl (.inl rfl)) (pss_cons (ps_set (i := 6) sc2.nd rfl (.inl rfl) (pe_call GPl hr2 rfl gPi kPi bPi .nil pass0 (pa_cons (pv 1) (pa_cons (pe_lstN (pa_cons pe_int (pa_cons pe_int (pa_cons pe_int (pa_cons pe_int (pa_cons pe_int (pa_cons pe_int (pa_cons pe_int pa_nil)))))))) pa_nil))))
        (pss_one (ps_asg (pe_call GBe hr9 rfl gBe kBe bBe .nil pass0 (pa_cons (pv 1) (pa_cons (pe_ix ix_list (pv 4) (pv 6) (fun _ _ => rfl)) pa_nil))) (pg_sub (pv 4) (pv 6) set_list)))))
        (pss_one (ps_if (pt_not (pt_val (pe_callG GRt hgd hr rfl gRt kRt bRt pass0 (pa_cons (pe_callTy call_tuple_of (by rfl) T.tup (by decide +kernel) (pa_cons (pv 4) pa_nil)) (pa_cons (pv 3) pa_nil))))) (pss_one (ps_ret pe_bl)) pss_nil))))))) hB)), ?_⟩
    refine ⟨_, rfl, a, ns, rfl, hS, hlen, fun d g H1 S1 nd ng D1 => ?_⟩
    refine ⟨12, rfl, by decide, by decide, for_range (lo := 0) (n := 12) (fun i σ H' => ∃ (m : Int) (x2 x3 x4 x5 x6 : Option V), σ = [some (.ref a), some (.ref d), x2, x3, x4, x5, x6, none, none, none] ∧ DeckAt H' d g m ∧ m ≤ 200 * (i : Int)) ⟨0, none, none, none, none, none, rfl, D1, by omega⟩ ?_ ?_⟩
    · rintro i σ H2 hi ⟨m, x2, x3, x4, x5, x6, rfl, D2, hm⟩
      refine ⟨_, rfl, d, g, m, 5, 9, rfl, D2, by decide, by decide, by decide, by omega, fun q l n st la ms H3 m3 B3 nq hq hM ok n5 few D3 hm3 => ?_⟩
      refine ⟨q, l, n, st, la, rfl, hq, fun p np => ?_⟩
      have sP := same_up (o := .tup [.int (n : Int), .int (st : Int), .int (la : Int), .ref l]) np
      have D4 := D3.put (o := .tup [.int (n : Int), .int (st : Int), .int (la : Int), .ref l]) np
      have hP : SqT K (upd H3 p (.tup [.int (n : Int), .int (st : Int), .int (la : Int), .ref l])) p [.int (n : Int), .int (st : Int), .int (la : Int), .ref l] := SqT.of upd_same
      have hM4 : MvsAt K (upd H3 p (.tup [.int (n : Int), .int (st : Int), .int (la : Int), .ref l])) l ms := ⟨same_seqT sP hM.tp, fun r hr => same_seqT sP (hM.it r hr)⟩
      generalize upd H3 p (.tup [.int (n : Int), .int (st : Int), .int (la : Int), .ref l]) = H4 at D4 hP hM4 ⊢
      have pre := preM_of ok
      have good := goodG_of ok
      have okm : ∀ m ∈ ms.map (·.2), OkMv n m := pre.ok
      have fewm : (ms.map (·.2)).length ≤ 9 := by rw [List.length_map]; exact few
      have fM := fit_mvs ok.n2 okm fewm
      have n9 := ok.n2
      have hst := ok.hst
      have hla := ok.hla
      have drM : ∀ {H' : Hp}, MvsAt K H' l ms → Dr K H' (.ref l) (.tuple ((ms.map (·.2)).map mvD)) := fun h => by
        rw [List.map_map]
        exact .tup h.tp (mvs_dr h.it)
      have tM : topN (.tuple ((ms.map (·.2)).map mvD)) ≤ 60 := Nat.le_trans fM.top (by decide)
      have wM : wt (.tuple ((ms.map (·.2)).map mvD)) ≤ 4000 := Nat.le_trans fM.wt (by decide)
      have resR : WrongR (.int (n : Int)) (.int (st : Int)) (.int (la : Int)) (.tuple ((ms.map (·.2)).map mvD)) none := .mk n st la _ pre good
      have i0 : FitT 0 (.int (n : Int)) := fit_int (by omega)
      have i1 : FitT 0 (.int (st : Int)) := fit_int (by omega)
      have i2 : FitT 0 (.int (la : Int)) := fit_int (by omega)
      refine ⟨_, rfl, p, _, _, _, _, _, _, _, _, none, rfl, hP, .int _, .int _, .int _, drM hM4, wM, tM, resR, fun due H5 S5 nd5 hdue => ?_⟩
      refine ⟨Nat.zero_le _, fun p0 np0 nm0 => ?_⟩
      have s0 := same_up (o := .lst []) np0
      cases hdue with
      | lst dnm hds hda =>
      cases hda
      refine ⟨due, p0, _, rfl, rfl, same_seqL s0 hds, SqL.of upd_same, _, rfl, ?_⟩
      refine iteF ?_
      have S46 := S5.trans s0
      have D6 := D4.same S46
      have hP6 := same_seqT S46 hP
      have hM6 : MvsAt K _ l ms := ⟨same_seqT S46 hM4.tp, fun r hr => same_seqT S46 (hM4.it r hr)⟩
      generalize upd H5 p0 (HO.lst []) = H6 at D6 hP6 hM6 ⊢
      refine ⟨_, rfl, _, rfl, p, p, l, _, _, _, _, _, _, _, _, none, n, st, la, ms, rfl, hP6, .int _, .int _, .int _, drM hM6, i0.fit (by decide), i1.fit (by decide), i2.fit (by decide), fM.fit (by decide), tM, resR, hP6, hM6, pre, good, by omega, fun H7 S7 => ⟨_, rfl, ?_⟩⟩
      refine iteF ?_
      have D7 := D6.same S7
      have hP7 := same_seqT S7 hP6
      have hM7 : MvsAt K H7 l ms := ⟨same_seqT S7 hM6.tp, fun r hr => same_seqT S7 (hM6.it r hr)⟩
      refine ⟨_, rfl, p, _, rfl, .inr hP7, fun B nB => ?_⟩
      have sB := same_up (o := .lst [.int (n : Int), .int (st : Int), .int (la : Int), .ref l]) nB
      have D8 := D7.put (o := .lst [.int (n : Int), .int (st : Int), .int (la : Int), .ref l]) nB
      have hB8 : upd H7 B (.lst [.int (n : Int), .int (st : Int), .int (la : Int), .ref l]) B = some (.lst [.int (n : Int), .int (st : Int), .int (la : Int), .ref l]) := upd_same
      have nBd := (D7.new nB).1
      have nBg := (D7.new nB).2
      have hP8 := cut_seqT D8 hB8 (same_seqT sB hP7)
      have hM8 : MvsAt K (cutH d g B (upd H7 B (.lst [.int (n : Int), .int (st : Int), .int (la : Int), .ref l]))) l ms := ⟨cut_seqT D8 hB8 (same_seqT sB hM7.tp), fun r hr => cut_seqT D8 hB8 (same_seqT sB (hM7.it r hr))⟩
      generalize upd H7 B (.lst [.int (n : Int), .int (st : Int), .int (la : Int), .ref l]) = H8 at D8 hB8 hP8 hM8 ⊢
      refine ⟨_, rfl, d, g, 3, m3, rfl, D8, by decide, by decide, by omega, fun t H9 t0 t3 D9 B9 => ?_⟩
      refine ⟨_, _, rfl, rfl, _, rfl, by omega, by omega, ?_⟩
      have hB9 := B9 _ _ hB8 nBd nBg
      have c9 := cut_but (b := B) B9
      refine for_range (lo := 0) (n := (1 + t).toNat) (fun j σ H' => ∃ (x5 x6 : Option V) (ws : List V) (ds : List PyData), σ = [some (.ref a), some (.ref d), some (.int (0 + (i : Nat))), some (.ref p), some (.ref B), x5, x6, none, none, none] ∧ DeckAt H' d g (m3 + 1 + 25 * (j : Int)) ∧ H' B = some (.lst ws) ∧ ws.length = 4 ∧
          SqT K (cutH d g B H') p [.int (n : Int), .int (st : Int), .int (la : Int), .ref l] ∧ MvsAt K (cutH d g B H') l ms ∧ DrAll K (cutH d g B H') ws ds ∧ ∀ x ∈ ds, FitT j x)
        ⟨_, _, _, [.int (n : Int), .int (st : Int), .int (la : Int), .tuple ((ms.map (·.2)).map mvD)], rfl, D9.up (by omega), hB9, rfl, same_seqT c9 hP8, ⟨same_seqT c9 hM8.tp, fun r hr => same_seqT c9 (hM8.it r hr)⟩, .cons (.int _) (.cons (.int _) (.cons (.int _) (.cons (drM ⟨same_seqT c9 hM8.tp, fun r hr => same_seqT c9 (hM8.it r hr)⟩) .nil))), fun x hx => ?_⟩ ?_ ?_
      · simp only [List.mem_cons, List.not_mem_nil, or_false] at hx
        rcases hx with rfl | rfl | rfl | rfl
        · exact i0
        · exact i1
        · exact i2
        · exact fM
      · rintro j σ HA hj ⟨x5, x6, ws, ds, rfl, DA, hBA, lw, hPA, hMA, hds, fits⟩
        have j2 : j ≤ 2 := by omega
        refine ⟨_, rfl, by show 7 ≤ sizeLine; decide, fun q1 nq1 nm1 => ?_⟩
        have sQ := same_up (o := .lst [.int 0, .int 1, .int 2, .int 3, .int 3, .int 3, .int 3]) nq1
        refine ⟨d, g, q1, m3 + 1 + 25 * (j : Int), _, rfl, DA.put nq1, by omega, SqL.of upd_same, (by show 0 < 7; decide), (by show 7 < 1000000; decide), (DA.new nq1).2, fun ix v HB hv DB BB => ?_⟩
        obtain ⟨at1, ha1, rfl⟩ : ∃ at1 : Nat, at1 ≤ 3 ∧ v = .int (at1 : Int) := by
          have := List.mem_of_getElem? hv
          simp only [List.mem_cons, List.not_mem_nil, or_false] at this
          rcases this with rfl | rfl | rfl | rfl | rfl | rfl | rfl
          · exact ⟨0, by decide, rfl⟩
          · exact ⟨1, by decide, rfl⟩
          · exact ⟨2, by decide, rfl⟩
          · exact ⟨3, by decide, rfl⟩
          · exact ⟨3, by decide, rfl⟩
          · exact ⟨3, by decide, rfl⟩
          · exact ⟨3, by decide, rfl⟩
        have BAB := (but_same sQ).trans BB
        have hBB := BAB _ _ hBA nBd nBg
        have cB := cut_but (b := B) BAB
        have hdsB := hds.keep cB
        obtain ⟨wv, hwv⟩ : ∃ wv, ws[at1]? = some wv := ⟨_, List.getElem?_eq_getElem (by omega)⟩
        obtain ⟨xd, hxd, rxd⟩ := hdsB.get hwv
        have fx := fits xd (List.mem_of_getElem? hxd)
        have wx := wtT_le (i := j) (by omega)
        refine ⟨_, rfl, _, rfl, _, rfl, B, _, (at1 : Int), wv, rfl, rfl, SqL.of hBB, atI_nat hwv, ?_⟩
        refine bent_use (E := E0) (k := 5) DB ⟨_, hBB⟩ nBd nBg (by omega) rxd (B := 10 ^ 40 + 1000 * j) (by omega) (by omega) fx.pl (by have := fx.wt; omega) (by have := fx.dp; omega) fun v' y HC bn ry DC BC => ?_
        have hBC := BC _ _ hBB nBd nBg
        have cC := cut_but (b := B) BC
        have ixe : ixN ws.length (at1 : Int) = some at1 := by
          rw [lw]
          rcases at1 with _ | _ | _ | _ | at1
          · rfl
          · rfl
          · rfl
          · rfl
          · omega
        refine ⟨_, rfl, _, rfl, B, ws, (at1 : Int), at1, rfl, rfl, hBC, ixe, ?_⟩
        refine ⟨_, _, ws.set at1 v', ds.set at1 y, rfl, ?_, upd_same, by rw [List.length_set]; exact lw, ?_, ?_, ?_, ?_⟩
        · exact (deck_upd DC nBd.symm nBg.symm).up (by push_cast; omega)
        · rw [cut_put]
          exact same_seqT (cB.trans cC) hPA
        · rw [cut_put]
          exact ⟨same_seqT (cB.trans cC) hMA.tp, fun r hr => same_seqT (cB.trans cC) (hMA.it r hr)⟩
        · rw [cut_put]
          exact (hdsB.keep cC).set ry
        · intro x hx
          rcases List.mem_or_eq_of_mem_set hx with z | z
          · exact (fits x z).up
          · rw [z]
            exact fx.bn bn
      · rintro σ HA ⟨x5, x6, ws, ds, rfl, DA, hBA, lw, hPA, hMA, hds, fits⟩
        have j3 : (1 + t).toNat ≤ 3 := by omega
        obtain ⟨w0, w1, w2, w3, rfl⟩ : ∃ w0 w1 w2 w3, ws = [w0, w1, w2, w3] := by
          rcases ws with _ | ⟨w0, _ | ⟨w1, _ | ⟨w2, _ | ⟨w3, _ | ⟨w4, r⟩⟩⟩⟩⟩
          · cases lw
          · cases lw
          · cases lw
          · cases lw
          · exact ⟨_, _, _, _, rfl⟩
          · simp at lw
        cases hds with
        | @cons _ _ e0 _ r0 hds =>
        cases hds with
        | @cons _ _ e1 _ r1 hds =>
        cases hds with
        | @cons _ _ e2 _ r2 hds =>
        cases hds with
        | @cons _ _ e3 _ r3 hds =>
        cases hds
        have f0 := fits e0 (by simp)
        have f1 := fits e1 (by simp)
        have f2 := fits e2 (by simp)
        have f3 := fits e3 (by simp)
        have g3 := f3.fit j3
        refine ⟨_, rfl, B, _, rfl, .inl ⟨SqL.of hBA, fun p2 np2 => ?_⟩⟩
        have s2 := (cut_same (d := d) (g := g) (b := B)).trans (same_up (o := .tup [w0, w1, w2, w3]) np2)
        obtain ⟨r, hr⟩ : ∃ r, WrongR e0 e1 e2 e3 r := by
          rcases wrongP_or e0 e1 e2 e3 g3.wt with ⟨pp, h⟩ | h
          · exact ⟨some pp, h⟩
          · exact ⟨none, h⟩
        refine ⟨_, rfl, p2, p, l, w0, w1, w2, w3, e0, e1, e2, e3, r, n, st, la, ms, rfl, SqT.of upd_same, r0.keep s2, r1.keep s2, r2.keep s2, r3.keep s2, f0.fit j3, f1.fit j3, f2.fit j3, g3, by have := f3.top; omega, hr, same_seqT s2 hPA, ⟨same_seqT s2 hMA.tp, fun r hr => same_seqT s2 (hMA.it r hr)⟩, pre, good, by omega, fun HB SB => ⟨_, rfl, ?_⟩⟩
        refine iteF ?_
        exact ⟨_, _, _, _, _, _, rfl, (DA.put np2).same SB, by push_cast; omega⟩
    rintro σ H2 ⟨m, x2, x3, x4, x5, x6, rfl, D2, hm⟩
    exact useB _ _ _ _ _ _ _ _ _ _ _
end
end Vk
set_option Elab.async false
set_option linter.all false
set_option maxRecDepth 100000
set_option maxHeartbeats 4000000
namespace Vk
open PySem PySem.Spec PyProof.Rows L2
theorem lawG {P : Program} {w : World} {K : PySem.W.Frag} {mg mb : Str → Option Value} {CX : CXT} {k : Nat} {fa a : Addr} {fd : FuncData} {x : Str} {sp : Sp} {s₁ : Shared} {vs : List Value} {ns : List Int}
    (kin : K.In s₁.heap) (gns : s₁.heap.Ns mainGlobals mg) (isB : s₁.heap.Ns builtinsNs mb) (bltin : ∀ x : Str, x ≠ "__name__" → mb x = bootBuiltins x) (limN : s₁.heap.NoLimit) (gens0 : s₁.gens = #[])
    (atA : s₁.heap.get? a = some { cls := .type "list", data := .seq vs.toArray }) (intsA : IntsAre vs ns) (few : ns.length ≤ sizeLine) (room : Room k callerA)
    (F : ∀ base : Heap, K.In base → base.Ns mainGlobals mg → FnG P w K mg base CX k fa fd [x] sp) (bind1 : ∀ (s : Shared) (u : Value), BindsTo s fd ⟨[u], []⟩ [(x, u)])
    (spec : ∀ H : Hp, Only H → SqL K H a (ns.map V.int) → sp [.ref a] H (fun v _ => v = .bl true) fun _ _ _ => False)
    (noX : ∀ H e s', CX [] H s₁ (fun _ _ _ => False) e s' → False) :
    codeAny (model P w) callerA (.call (.ref fa) ⟨[.ref a], []⟩) (fun r s' => r = .ok (.ret (.bool true)) ∧ OldK s₁.heap s'.heap ∧ s'.os = s₁.os ∧ AllBare s'.gens) s₁ := by
  have relV := vals_ints intsA
  have sizeV := intsA.length
  -- from an abstract heap in which nothing but the script may be tracked
  have from_ : ∀ H : Hp, Only H → SqL K H a (ns.map V.int) → HOk P w H s₁.heap → (∀ b, H b ≠ none → b = a) → (H a ≠ none → K.lookup a = none) →
      codeAny (model P w) callerA (.call (.ref fa) ⟨[.ref a], []⟩) (fun r s' => r = .ok (.ret (.bool true)) ∧ OldK s₁.heap s'.heap ∧ s'.os = s₁.os ∧ AllBare s'.gens) s₁ := by
    intro H only seqA okH onlyA notK
    have inBase : ∀ {b : Addr} {o : Obj}, s₁.heap.get? b = some o → H b = none → (hidT s₁.heap H).get? b = some o := fun e n => hidT_get e n
    have noDict : ∀ {b : Addr} {o : Obj} {es : Array DictEntry} {ep : Nat}, s₁.heap.get? b = some o → o.data = .dict es ep → H b = none := fun {b o es ep} e d => by
      cases q : H b with
      | none => rfl
      | some u =>
        have e' : b = a := onlyA b (by rw [q]; simp)
        subst e'
        rw [atA] at e; cases e
        have d' : Data.seq vs.toArray _ = Data.dict es ep := d
        cases d'
    have nsBase : ∀ {b : Addr} {m : Str → Option Value}, s₁.heap.Ns b m → (hidT s₁.heap H).Ns b m := fun {b m} ⟨o, es, ep, e, d, r⟩ => ⟨o, es, ep, inBase e (noDict e d), d, r⟩
    have kBase : K.In (hidT s₁.heap H) := fun b o e => inBase (kin b o e) (by
      cases q : H b with
      | none => rfl
      | some u =>
        have e' : b = a := onlyA b (by rw [q]; simp)
        subst e'
        rw [notK (by rw [q]; simp)] at e; cases e)
    have modB : Mod K mg (hidT s₁.heap H) := ⟨kBase, nsBase gns, ⟨mb, nsBase isB, bltin⟩, let ⟨mc, h1, h2⟩ := limN; ⟨mc, nsBase h1, h2⟩⟩
    have env0 : Env0 P w K mg (hidT s₁.heap H) callerA [] s₁ H := ⟨rfl, modB, fun b o e => of_hidT e, Nat.le_of_eq (hidT_size _ _), trivial, fun b isB => absurd (show b ∈ ([] : List Addr) from isB) (by simp), okH, .of_eq gens0⟩
    refine codeAny_mono ((F _ kBase (nsBase gns)).run callerA [] s₁ H ⟨[.ref a], []⟩ [.ref a] [.ref a] _ _ rfl room env0 (bind1 s₁ (.ref a)) (.cons rfl .nil) (spec H only seqA)) fun r s' h => ?_
    cases r with
    | error e => exact (noX H e s' h).elim
    | ok fl =>
      cases fl with
      | next => exact False.elim h
      | brk => exact False.elim h
      | cont => exact False.elim h
      | ret u =>
        obtain ⟨v, H', os, bareG, unk, hok', r', q⟩ := h
        have q' : v = .bl true := q
        subst q'
        obtain rfl : u = Value.bool true := r'
        refine ⟨rfl, OldK.of_keep fun b o e => ?_, os, bareG⟩
        cases q : H b with
        | none => exact unk.keep b o e q (by intro z; exact absurd (show b ∈ ([] : List Addr) from z) (by simp)) (by simp)
        | some u =>
          rcases only b with z | ⟨ob, xs, z⟩
          · rw [q] at z; cases z
          · have z2 := unk.frzs b ob _ z
            obtain ⟨e1, _⟩ := okH b _ z
            obtain ⟨e2, _⟩ := hok' b _ z2
            rw [e] at e1; cases e1
            exact e2
  cases lk : K.lookup a with
  | some o =>
    -- the script is one of the module's own objects
    have e := kin a o lk
    rw [atA] at e
    cases e
    refine from_ (fun _ => none) (fun _ => .inl rfl) (.inr ⟨_, vs.toArray, _, lk, rfl, rfl, rfl, by rw [List.size_toArray, sizeV]; exact few, by simpa using relV⟩) (fun b u z => by have z' : (none : Option HO) = some u := z; cases z') (fun b z => absurd rfl z) fun z => absurd rfl z
  | none =>
    refine from_ (fun b => if b = a then some (.frz { cls := .type "list", data := .seq vs.toArray } (.lst (ns.map V.int))) else none) (fun b => ?_) (.inl (.inr ⟨{ cls := .type "list", data := .seq vs.toArray }, if_pos rfl⟩)) (fun b u z => ?_) (fun b z => ?_) fun _ => lk
    · by_cases isB : b = a
      · exact .inr ⟨_, _, if_pos isB⟩
      · exact .inl (if_neg isB)
    · by_cases isB : b = a
      · have z' := (if_pos isB).symm.trans z
        cases z'
        subst isB
        exact ⟨atA, by rw [List.length_map]; exact few, vs, _, relV, atA⟩
      · have z' := (if_neg isB).symm.trans z
        cases z'
    · by_cases isB : b = a
      · exact isB
      · exact absurd (if_neg isB) z
theorem walkG {l : PySem.W.OpenLaw} {n k : Nat} {q : Program} {loose : List Str} {XP : (Str → Option Value) → Heap → Prop} {YP : World → Heap → Prop} {d : DefRec} {K : Params → PySem.W.Frag} {CX : World → CXT} {sp : World → Sp} {x : Str}
    (hn : l.most = some n) (hn2 : n ≤ sizeLine) (hdf : d.params.defaults = []) (room : Room k callerA)
    (hY : ∀ (w : World) (h : Heap), YP w h → (K w.params).In h)
    (F : ∀ (w : World) (mg : Str → Option Value) (fa : Addr) (h : Heap), (K w.params).In h → h.Ns mainGlobals mg → mg d.name = some (.ref fa) →
      ∃ fd : FuncData, (∀ (s : Shared) (u : Value), BindsTo s fd ⟨[u], []⟩ [(x, u)]) ∧
        ∀ base : Heap, (K w.params).In base → base.Ns mainGlobals mg → FnG l.prog w (K w.params) mg base (CX w) k fa fd [x] (sp w))
    (spec : ∀ (w : World) (H : Hp) (a : Addr) (ns : List Int), ns.length ≤ n → Only H → SqL (K w.params) H a (ns.map V.int) → sp w [.ref a] H (fun v _ => v = .bl true) fun _ _ _ => False)
    (noX : ∀ (w : World) (H : Hp) (s : Shared) (e : Value) (s' : Shared), CX w [] H s (fun _ _ _ => False) e s' → False) :
    PySem.W.WalkO q loose XP YP l.row.toRowW d [] (fun f vs => PySem.call f vs) := by
  refine Att.attach_call hn hdf fun w s₀ s₁ mg mb fa o pm cd doc a vs ns G Y ho hd hcd hmg hobj hints hlen gens0 => ?_
  have kin := hY w _ Y
  obtain ⟨fd, isB, hF⟩ := F w mg fa _ kin G.T.g hmg
  exact lawG kin G.T.g G.T.b G.T.builtins G.T.nolimit gens0 hobj hints (Nat.le_trans hlen hn2) room hF isB (fun H only seqA => spec w H a ns hlen only seqA) fun H e s' => noX w H s₁ e s'
end Vk
set_option Elab.async false
set_option linter.all false
set_option maxRecDepth 100000
set_option maxHeartbeats 4000000
namespace Vk
open PySem PySem.Spec PyProof.Rows L2 Vt PySem.Vx ClX
/-- all that is looked up of a class at once -/
def clsG (fs : List Str) (K : PySem.W.Frag) (C : Addr) : Bool := PySem.W.plainGet K C Str.empty && (PySem.W.hasDictIn K C && (PySem.W.plainOver K C && (decide (PySem.W.findIn K (.ref C) "__setattr__" = some (some (.builtin "object.__setattr__"))) &&
  (decide (PySem.W.findIn K (.ref C) "__class__" = some (some (.builtin "object.__class__"))) && (decide (PySem.W.specialIn K (.builtin "object.__class__") "__get__" = some (some (.builtin "getset_descriptor.__get__"))) && (decide (PySem.W.takesIn K (.builtin "object.__class__") = some true) &&
  (decide (PySem.W.mroIn K C (.type "object") = some true) && (decide (PySem.W.kitOne K (.ref C) (.ref C) = some true) && (PySem.W.makesIn K C && (PySem.W.keepIn K (.ref C) && (PySem.W.notFirst K C (.ref C) && fs.all fun n => decide (PySem.W.findIn K (.ref C) n = some none))))))))))))
structure ClsG (fs : List Str) (K : PySem.W.Frag) (C : Addr) : Prop where
  cl : Cls K C
  ic : C8.InsC K C
  ob : PySem.W.mroIn K C (.type "object") = some true
  mks : PySem.W.makesIn K C = true
  kp : PySem.W.keepIn K (.ref C) = true
  nf : PySem.W.notFirst K C (.ref C) = true
  na : ∀ n, n ∈ fs → NoAttr K C n
theorem clsG_of {fs : List Str} {K : PySem.W.Frag} {C : Addr} (h : clsG fs K C = true) : ClsG fs K C := by
  unfold clsG at h
  simp only [Bool.and_eq_true, decide_eq_true_eq, List.all_eq_true] at h
  obtain ⟨h1, h2, h3, h4, h5, h6, h7, h8, h9, h10, h11, h12, h13⟩ := h
  have cl : Cls K C := ⟨h1, h2, h3, h4⟩
  exact ⟨cl, ⟨cl, h5, h6, h7, h8, h9⟩, h8, h10, h11, h12, h13⟩
def fieldsM : List Str := ["size", "first", "last", "moves", "letters", "_entered", "_left"]
def fieldsX : List Str := ["kind", "parts", "depth", "size", "letters"]
theorem mcls_of {K : PySem.W.Frag} {C : Addr} (g : ClsG fieldsM K C) : MCls K C :=
  ⟨g.cl, g.na _ (.head _), g.na _ (.tail _ (.head _)), g.na _ (.tail _ (.tail _ (.head _))), g.na _ (.tail _ (.tail _ (.tail _ (.head _)))), g.na _ (.tail _ (.tail _ (.tail _ (.tail _ (.head _))))), g.na _ (.tail _ (.tail _ (.tail _ (.tail _ (.tail _ (.head _)))))), g.na _ (.tail _ (.tail _ (.tail _ (.tail _ (.tail _ (.tail _ (.head _)))))))⟩
theorem xcls_of {K : PySem.W.Frag} {C : Addr} (g : ClsG fieldsX K C) : XCls K C :=
  ⟨g.cl, g.na _ (.head _), g.na _ (.tail _ (.head _)), g.na _ (.tail _ (.tail _ (.head _))), g.na _ (.tail _ (.tail _ (.tail _ (.head _)))), g.na _ (.tail _ (.tail _ (.tail _ (.tail _ (.head _)))))⟩

theorem all8_mk {l : PySem.W.OpenLaw} {w : World} {K : PySem.W.Frag} {h : Heap} {mg : Str → Option Value} {fa C CX CE CL e0 aK aT aE fN fE fS fM fC fX fR fP fK fNp fCe fLt fDk fDr fPi fLd fWo fOd fPn fPa fBe fNu fPl fMv fTw fWr fHd fRt fLw fI fEq fLn fXe fXI : Addr} {tk1 u1 u2 u3 u4 u5 u6 u7 : Tok} {nK nT : Nat} (X : K.In h) (G : h.Ns mainGlobals mg) (hfa : mg "law" = some (.ref fa))
    {odK odT odN anN odE anE odS anS odM anM odC anC odX anX odR anR odP anP odK anK odNp anNp odCe anCe odLt anLt odDk anDk odDr anDr odPi anPi odLd anLd odWo anWo odOd anOd odPn anPn odPa anPa odBe anBe odNu anNu odPl anPl odMv anMv odTw anTw odWr anWr odHd anHd odRt anRt odLw anLw odI anI odEq anEq odLn anLn odXe anXe odXI anXI : Option Addr} {slK slT slN slE slS slM slC slX slR slP slK slNp slCe slLt slDk slDr slPi slLd slWo slOd slPn slPa slBe slNu slPl slMv slTw slWr slHd slRt slLw slI slEq slLn slXe slXI : Array (Option Value)} {ocT ocN kVN dcN pmN cdN ctN ocE kVE dcE pmE cdE ctE ocS kVS dcS pmS cdS ctS ocM kVM dcM pmM cdM ctM ocC kVC dcC pmC cdC ctC ocX kVX dcX pmX cdX ctX ocR kVR dcR pmR cdR ctR ocP kVP dcP pmP cdP ctP ocK kVK dcK pmK cdK ctK ocNp kVNp dcNp pmNp cdNp ctNp ocCe kVCe dcCe pmCe cdCe ctCe ocLt kVLt dcLt pmLt cdLt ctLt ocDk kVDk dcDk pmDk cdDk ctDk ocDr kVDr dcDr pmDr cdDr ctDr ocPi kVPi dcPi pmPi cdPi ctPi ocLd kVLd dcLd pmLd cdLd ctLd ocWo kVWo dcWo pmWo cdWo ctWo ocOd kVOd dcOd pmOd cdOd ctOd ocPn kVPn dcPn pmPn cdPn ctPn ocPa kVPa dcPa pmPa cdPa ctPa ocBe kVBe dcBe pmBe cdBe ctBe ocNu kVNu dcNu pmNu cdNu ctNu ocPl kVPl dcPl pmPl cdPl ctPl ocMv kVMv dcMv pmMv cdMv ctMv ocTw kVTw dcTw pmTw cdTw ctTw ocWr kVWr dcWr pmWr cdWr ctWr ocHd kVHd dcHd pmHd cdHd ctHd ocRt kVRt dcRt pmRt cdRt ctRt ocLw kVLw dcLw pmLw cdLw ctLw ocI kVI dcI pmI cdI ctI ocEq kVEq dcEq pmEq cdEq ctEq ocLn kVLn dcLn pmLn cdLn ctLn ocXe kVXe dcXe pmXe cdXe ctXe ocXI kVXI dcXI pmXI cdXI ctXI : Value}
    {xod0 xan0 : Option Addr} {xsl0 : Array (Option Value)} {xoc0 xdc0 xpm0 xcd0 xct0 : Value} {p10 p20 q10 q20 q30 q40 : Pos}
    (aC : PySem.W.nsIn K mainGlobals "Machine" = some (some (.ref C))) (hall : clsG fieldsM K C = true)
    (aX : PySem.W.nsIn K mainGlobals "Expression" = some (some (.ref CX))) (hallX : clsG fieldsX K CX = true)
    (nfT : PySem.W.notFirst K C (.type "tuple") = true) (nfS : PySem.W.notFirst K C (.type "str") = true) (nfX : PySem.W.notFirst K C (.ref CX) = true) (nfM : PySem.W.notFirst K CX (.ref C) = true)
    (kiT : PySem.W.kitOne K (.type "tuple") (.ref C) = some false) (kiS : PySem.W.kitOne K (.type "str") (.ref C) = some false) (kXM : PySem.W.kitOne K (.ref CX) (.ref C) = some false) (kMX : PySem.W.kitOne K (.ref C) (.ref CX) = some false)
    (hne : PySem.W.findIn K (.ref C) "__ne__" = some (some (.builtin "object.__ne__")))
    (aKI : PySem.W.nsIn K mainGlobals "KINDS" = some (some (.ref aK))) (lKI : K.lookup aK = some ⟨.type "tuple", odK, .seq #[.str "one" u1, .str "letter" u2, .str "row" u3, .str "choice" u4, .str "loop" u5, .str "some" u6, .str "maybe" u7] nK, slK⟩)
    (aMost : PySem.W.nsIn K mainGlobals "MOST_STATES" = some (some (.int 999 tk1)))
    (aBM : PySem.W.nsIn K mainGlobals "BadMachine" = some (some (.ref CE))) (hE : ecB K CE = true) (mE0 : PySem.W.exmOne K (.ref CE) (.ref CE) = some true)
    (n0 : PySem.W.findIn K (.ref CE) "part" = some none) (i0 : PySem.W.findIn K (.ref CE) "__init__" = some (some (.ref e0))) (t0 : PySem.W.typeIn K (.ref e0) = some (.type "function"))
    (x0 : K.lookup e0 = some ⟨xoc0, xod0, .func (PySem.W.fnOf "__init__" "BadMachine.__init__" (iA "part" p10 p20) (iB "part" q10 q20 q30 q40) (iS "part") .none .none xdc0 xpm0 xan0 xcd0 xct0), xsl0⟩) (y0 : PySem.W.codeIn K xcd0 "BadMachine.__init__" = true)
    (aL : PySem.W.nsIn K mainGlobals "LoopError" = some (some (.ref CL))) (kL9 : PySem.W.kitOne K (.ref CE) (.ref CL) = some true)
    (gN : PySem.W.nsIn K mainGlobals "is_number" = some (some (.ref fN)))
    (lN : K.lookup fN = some ⟨ocN, odN, .func (PySem.W.fnOf "is_number" "is_number" (defArgs sNum) (defBody sNum) (defScope sNum) .none kVN dcN pmN anN cdN ctN), slN⟩) (wN : PySem.W.codeIn K cdN "is_number" = true) (kN : PySem.W.keepIn K (.ref fN) = true)
    (gE : PySem.W.nsIn K mainGlobals "is_letter" = some (some (.ref fE)))
    (lE : K.lookup fE = some ⟨ocE, odE, .func (PySem.W.fnOf "is_letter" "is_letter" (defArgs sLet) (defBody sLet) (defScope sLet) .none kVE dcE pmE anE cdE ctE), slE⟩) (wE : PySem.W.codeIn K cdE "is_letter" = true) (kE : PySem.W.keepIn K (.ref fE) = true)
    (gS : PySem.W.nsIn K mainGlobals "is_state" = some (some (.ref fS)))
    (lS : K.lookup fS = some ⟨ocS, odS, .func (PySem.W.fnOf "is_state" "is_state" (defArgs sState) (defBody sState) (defScope sState) .none kVS dcS pmS anS cdS ctS), slS⟩) (wS : PySem.W.codeIn K cdS "is_state" = true) (kS : PySem.W.keepIn K (.ref fS) = true)
    (gM : PySem.W.nsIn K mainGlobals "is_move" = some (some (.ref fM)))
    (lM : K.lookup fM = some ⟨ocM, odM, .func (PySem.W.fnOf "is_move" "is_move" (defArgs sMove) (defBody sMove) (defScope sMove) .none kVM dcM pmM anM cdM ctM), slM⟩) (wM : PySem.W.codeIn K cdM "is_move" = true) (kM : PySem.W.keepIn K (.ref fM) = true)
    (gC : PySem.W.nsIn K mainGlobals "check_moves" = some (some (.ref fC)))
    (lC : K.lookup fC = some ⟨ocC, odC, .func (PySem.W.fnOf "check_moves" "check_moves" (defArgs sMoves) (defBody sMoves) (defScope sMoves) .none kVC dcC pmC anC cdC ctC), slC⟩) (wC : PySem.W.codeIn K cdC "check_moves" = true) (kC : PySem.W.keepIn K (.ref fC) = true)
    (gX : PySem.W.nsIn K mainGlobals "check_ends" = some (some (.ref fX)))
    (lX : K.lookup fX = some ⟨ocX, odX, .func (PySem.W.fnOf "check_ends" "check_ends" (defArgs sEnds) (defBody sEnds) (defScope sEnds) .none kVX dcX pmX anX cdX ctX), slX⟩) (wX : PySem.W.codeIn K cdX "check_ends" = true) (kX : PySem.W.keepIn K (.ref fX) = true)
    (gR : PySem.W.nsIn K mainGlobals "reached" = some (some (.ref fR)))
    (lR : K.lookup fR = some ⟨ocR, odR, .func (PySem.W.fnOf "reached" "reached" (defArgs sReached) (defBody sReached) (defScope sReached) .none kVR dcR pmR anR cdR ctR), slR⟩) (wR : PySem.W.codeIn K cdR "reached" = true) (kR : PySem.W.keepIn K (.ref fR) = true)
    (gP : PySem.W.nsIn K mainGlobals "check_paths" = some (some (.ref fP)))
    (lP : K.lookup fP = some ⟨ocP, odP, .func (PySem.W.fnOf "check_paths" "check_paths" (defArgs sPaths) (defBody sPaths) (defScope sPaths) .none kVP dcP pmP anP cdP ctP), slP⟩) (wP : PySem.W.codeIn K cdP "check_paths" = true) (kP : PySem.W.keepIn K (.ref fP) = true)
    (gK : PySem.W.nsIn K mainGlobals "check_machine" = some (some (.ref fK)))
    (lK : K.lookup fK = some ⟨ocK, odK, .func (PySem.W.fnOf "check_machine" "check_machine" (defArgs sCheck) (defBody sCheck) (defScope sCheck) .none kVK dcK pmK anK cdK ctK), slK⟩) (wK : PySem.W.codeIn K cdK "check_machine" = true) (kK : PySem.W.keepIn K (.ref fK) = true)
    (gNp : PySem.W.nsIn K mainGlobals "is_number_of_parts" = some (some (.ref fNp)))
    (lNp : K.lookup fNp = some ⟨ocNp, odNp, .func (PySem.W.fnOf "is_number_of_parts" "is_number_of_parts" (defArgs sXNum) (defBody sXNum) (defScope sXNum) .none kVNp dcNp pmNp anNp cdNp ctNp), slNp⟩) (wNp : PySem.W.codeIn K cdNp "is_number_of_parts" = true) (kNp : PySem.W.keepIn K (.ref fNp) = true)
    (gCe : PySem.W.nsIn K mainGlobals "check_expression" = some (some (.ref fCe)))
    (lCe : K.lookup fCe = some ⟨ocCe, odCe, .func (PySem.W.fnOf "check_expression" "check_expression" (defArgs sXCheck) (defBody sXCheck) (defScope sXCheck) .none kVCe dcCe pmCe anCe cdCe ctCe), slCe⟩) (wCe : PySem.W.codeIn K cdCe "check_expression" = true) (kCe : PySem.W.keepIn K (.ref fCe) = true)
    (gLt : PySem.W.nsIn K mainGlobals "letter" = some (some (.ref fLt)))
    (lLt : K.lookup fLt = some ⟨ocLt, odLt, .func (PySem.W.fnOf "letter" "letter" (defArgs sXLet) (defBody sXLet) (defScope sXLet) .none kVLt dcLt pmLt anLt cdLt ctLt), slLt⟩) (wLt : PySem.W.codeIn K cdLt "letter" = true) (kLt : PySem.W.keepIn K (.ref fLt) = true)
    (gDk : PySem.W.nsIn K mainGlobals "_law_deck" = some (some (.ref fDk)))
    (lDk : K.lookup fDk = some ⟨ocDk, odDk, .func (PySem.W.fnOf "_law_deck" "_law_deck" (defArgs sDeck) (defBody sDeck) (defScope sDeck) .none kVDk dcDk pmDk anDk cdDk ctDk), slDk⟩) (wDk : PySem.W.codeIn K cdDk "_law_deck" = true) (kDk : PySem.W.keepIn K (.ref fDk) = true)
    (gDr : PySem.W.nsIn K mainGlobals "_law_draw" = some (some (.ref fDr)))
    (lDr : K.lookup fDr = some ⟨ocDr, odDr, .func (PySem.W.fnOf "_law_draw" "_law_draw" (defArgs sDraw) (defBody sDraw) (defScope sDraw) .none kVDr dcDr pmDr anDr cdDr ctDr), slDr⟩) (wDr : PySem.W.codeIn K cdDr "_law_draw" = true) (kDr : PySem.W.keepIn K (.ref fDr) = true)
    (gPi : PySem.W.nsIn K mainGlobals "_law_pick" = some (some (.ref fPi)))
    (lPi : K.lookup fPi = some ⟨ocPi, odPi, .func (PySem.W.fnOf "_law_pick" "_law_pick" (defArgs sPick) (defBody sPick) (defScope sPick) .none kVPi dcPi pmPi anPi cdPi ctPi), slPi⟩) (wPi : PySem.W.codeIn K cdPi "_law_pick" = true) (kPi : PySem.W.keepIn K (.ref fPi) = true)
    (gLd : PySem.W.nsIn K mainGlobals "_law_led" = some (some (.ref fLd)))
    (lLd : K.lookup fLd = some ⟨ocLd, odLd, .func (PySem.W.fnOf "_law_led" "_law_led" (defArgs sLed) (defBody sLed) (defScope sLed) .none kVLd dcLd pmLd anLd cdLd ctLd), slLd⟩) (wLd : PySem.W.codeIn K cdLd "_law_led" = true) (kLd : PySem.W.keepIn K (.ref fLd) = true)
    (gWo : PySem.W.nsIn K mainGlobals "_law_world" = some (some (.ref fWo)))
    (lWo : K.lookup fWo = some ⟨ocWo, odWo, .func (PySem.W.fnOf "_law_world" "_law_world" (defArgs sWorld) (defBody sWorld) (defScope sWorld) .none kVWo dcWo pmWo anWo cdWo ctWo), slWo⟩) (wWo : PySem.W.codeIn K cdWo "_law_world" = true) (kWo : PySem.W.keepIn K (.ref fWo) = true)
    (gOd : PySem.W.nsIn K mainGlobals "_law_odd" = some (some (.ref fOd)))
    (lOd : K.lookup fOd = some ⟨ocOd, odOd, .func (PySem.W.fnOf "_law_odd" "_law_odd" (defArgs sLOdd) (defBody sLOdd) (defScope sLOdd) .none kVOd dcOd pmOd anOd cdOd ctOd), slOd⟩) (wOd : PySem.W.codeIn K cdOd "_law_odd" = true) (kOd : PySem.W.keepIn K (.ref fOd) = true)
    (gPn : PySem.W.nsIn K mainGlobals "_law_plain" = some (some (.ref fPn)))
    (lPn : K.lookup fPn = some ⟨ocPn, odPn, .func (PySem.W.fnOf "_law_plain" "_law_plain" (defArgs sLPlain) (defBody sLPlain) (defScope sLPlain) .none kVPn dcPn pmPn anPn cdPn ctPn), slPn⟩) (wPn : PySem.W.codeIn K cdPn "_law_plain" = true) (kPn : PySem.W.keepIn K (.ref fPn) = true)
    (gPa : PySem.W.nsIn K mainGlobals "_law_parts" = some (some (.ref fPa)))
    (lPa : K.lookup fPa = some ⟨ocPa, odPa, .func (PySem.W.fnOf "_law_parts" "_law_parts" (defArgs sLParts) (defBody sLParts) (defScope sLParts) .none kVPa dcPa pmPa anPa cdPa ctPa), slPa⟩) (wPa : PySem.W.codeIn K cdPa "_law_parts" = true) (kPa : PySem.W.keepIn K (.ref fPa) = true)
    (gBe : PySem.W.nsIn K mainGlobals "_law_bent" = some (some (.ref fBe)))
    (lBe : K.lookup fBe = some ⟨ocBe, odBe, .func (PySem.W.fnOf "_law_bent" "_law_bent" (defArgs sLBent) (defBody sLBent) (defScope sLBent) .none kVBe dcBe pmBe anBe cdBe ctBe), slBe⟩) (wBe : PySem.W.codeIn K cdBe "_law_bent" = true) (kBe : PySem.W.keepIn K (.ref fBe) = true)
    (gNu : PySem.W.nsIn K mainGlobals "_law_is_number" = some (some (.ref fNu)))
    (lNu : K.lookup fNu = some ⟨ocNu, odNu, .func (PySem.W.fnOf "_law_is_number" "_law_is_number" (defArgs sLNumb) (defBody sLNumb) (defScope sLNumb) .none kVNu dcNu pmNu anNu cdNu ctNu), slNu⟩) (wNu : PySem.W.codeIn K cdNu "_law_is_number" = true) (kNu : PySem.W.keepIn K (.ref fNu) = true)
    (gPl : PySem.W.nsIn K mainGlobals "_law_is_place" = some (some (.ref fPl)))
    (lPl : K.lookup fPl = some ⟨ocPl, odPl, .func (PySem.W.fnOf "_law_is_place" "_law_is_place" (defArgs sLPlace) (defBody sLPlace) (defScope sLPlace) .none kVPl dcPl pmPl anPl cdPl ctPl), slPl⟩) (wPl : PySem.W.codeIn K cdPl "_law_is_place" = true) (kPl : PySem.W.keepIn K (.ref fPl) = true)
    (gMv : PySem.W.nsIn K mainGlobals "_law_is_move" = some (some (.ref fMv)))
    (lMv : K.lookup fMv = some ⟨ocMv, odMv, .func (PySem.W.fnOf "_law_is_move" "_law_is_move" (defArgs sLMove) (defBody sLMove) (defScope sLMove) .none kVMv dcMv pmMv anMv cdMv ctMv), slMv⟩) (wMv : PySem.W.codeIn K cdMv "_law_is_move" = true) (kMv : PySem.W.keepIn K (.ref fMv) = true)
    (gTw : PySem.W.nsIn K mainGlobals "_law_twice" = some (some (.ref fTw)))
    (lTw : K.lookup fTw = some ⟨ocTw, odTw, .func (PySem.W.fnOf "_law_twice" "_law_twice" (defArgs sLTwice) (defBody sLTwice) (defScope sLTwice) .none kVTw dcTw pmTw anTw cdTw ctTw), slTw⟩) (wTw : PySem.W.codeIn K cdTw "_law_twice" = true) (kTw : PySem.W.keepIn K (.ref fTw) = true)
    (gWr : PySem.W.nsIn K mainGlobals "_law_wrong" = some (some (.ref fWr)))
    (lWr : K.lookup fWr = some ⟨ocWr, odWr, .func (PySem.W.fnOf "_law_wrong" "_law_wrong" (defArgs sLWrong) (defBody sLWrong) (defScope sLWrong) .none kVWr dcWr pmWr anWr cdWr ctWr), slWr⟩) (wWr : PySem.W.codeIn K cdWr "_law_wrong" = true) (kWr : PySem.W.keepIn K (.ref fWr) = true)
    (gHd : PySem.W.nsIn K mainGlobals "_law_heard" = some (some (.ref fHd)))
    (lHd : K.lookup fHd = some ⟨ocHd, odHd, .func (PySem.W.fnOf "_law_heard" "_law_heard" (defArgs sLHeard) (defBody sLHeard) (defScope sLHeard) .none kVHd dcHd pmHd anHd cdHd ctHd), slHd⟩) (wHd : PySem.W.codeIn K cdHd "_law_heard" = true) (kHd : PySem.W.keepIn K (.ref fHd) = true)
    (gRt : PySem.W.nsIn K mainGlobals "_law_right" = some (some (.ref fRt)))
    (lRt : K.lookup fRt = some ⟨ocRt, odRt, .func (PySem.W.fnOf "_law_right" "_law_right" (defArgs sLRight) (defBody sLRight) (defScope sLRight) .none kVRt dcRt pmRt anRt cdRt ctRt), slRt⟩) (wRt : PySem.W.codeIn K cdRt "_law_right" = true) (kRt : PySem.W.keepIn K (.ref fRt) = true)
    (gLw : PySem.W.nsIn K mainGlobals "law" = some (some (.ref fLw)))
    (lLw : K.lookup fLw = some ⟨ocLw, odLw, .func (PySem.W.fnOf "law" "law" (defArgs sLaw2) (defBody sLaw2) (defScope sLaw2) .none kVLw dcLw pmLw anLw cdLw ctLw), slLw⟩) (wLw : PySem.W.codeIn K cdLw "law" = true) (kLw : PySem.W.keepIn K (.ref fLw) = true)
    (gI : PySem.W.findIn K (.ref C) "__init__" = some (some (.ref fI))) (iI : PySem.W.isFn K (.ref fI) = true)
    (lI : K.lookup fI = some ⟨ocI, odI, .func (PySem.W.fnOf "__init__" "Machine.__init__" (defArgs sInit) (defBody sInit) (defScope sInit) .none kVI dcI pmI anI cdI ctI), slI⟩) (wI : PySem.W.codeIn K cdI "Machine.__init__" = true) (kI : PySem.W.keepIn K (.ref fI) = true)
    (gEq : PySem.W.findIn K (.ref C) "__eq__" = some (some (.ref fEq))) (iEq : PySem.W.isFn K (.ref fEq) = true)
    (lEq : K.lookup fEq = some ⟨ocEq, odEq, .func (PySem.W.fnOf "__eq__" "Machine.__eq__" (defArgs sEq) (defBody sEq) (defScope sEq) .none kVEq dcEq pmEq anEq cdEq ctEq), slEq⟩) (wEq : PySem.W.codeIn K cdEq "Machine.__eq__" = true) (kEq : PySem.W.keepIn K (.ref fEq) = true)
    (gLn : PySem.W.findIn K (.ref C) "__len__" = some (some (.ref fLn))) (iLn : PySem.W.isFn K (.ref fLn) = true)
    (lLn : K.lookup fLn = some ⟨ocLn, odLn, .func (PySem.W.fnOf "__len__" "Machine.__len__" (defArgs sMLen) (defBody sMLen) (defScope sMLen) .none kVLn dcLn pmLn anLn cdLn ctLn), slLn⟩) (wLn : PySem.W.codeIn K cdLn "Machine.__len__" = true) (kLn : PySem.W.keepIn K (.ref fLn) = true)
    (gXe : PySem.W.findIn K (.ref CX) "__eq__" = some (some (.ref fXe))) (iXe : PySem.W.isFn K (.ref fXe) = true)
    (lXe : K.lookup fXe = some ⟨ocXe, odXe, .func (PySem.W.fnOf "__eq__" "Expression.__eq__" (defArgs sXEq) (defBody sXEq) (defScope sXEq) .none kVXe dcXe pmXe anXe cdXe ctXe), slXe⟩) (wXe : PySem.W.codeIn K cdXe "Expression.__eq__" = true) (kXe : PySem.W.keepIn K (.ref fXe) = true)
    (gXI : PySem.W.findIn K (.ref CX) "__init__" = some (some (.ref fXI))) (iXI : PySem.W.isFn K (.ref fXI) = true)
    (lXI : K.lookup fXI = some ⟨ocXI, odXI, .func (PySem.W.fnOf "__init__" "Expression.__init__" (defArgs sXInit) (defBody sXInit) (defScope sXInit) (.ref aT) kVXI dcXI pmXI anXI cdXI ctXI), slXI⟩) (wXI : PySem.W.codeIn K cdXI "Expression.__init__" = true) (kXI : PySem.W.keepIn K (.ref fXI) = true)
    (lDf : K.lookup aT = some ⟨ocT, odT, .seq #[.ref aE] nT, slT⟩)
    (zisi : PySem.W.nsIn K mainGlobals "isinstance" = some none)
    (zint : PySem.W.nsIn K mainGlobals "int" = some none)
    (zbool : PySem.W.nsIn K mainGlobals "bool" = some none)
    (zstr : PySem.W.nsIn K mainGlobals "str" = some none)
    (ztup : PySem.W.nsIn K mainGlobals "tuple" = some none)
    (zlen : PySem.W.nsIn K mainGlobals "len" = some none)
    (zlst : PySem.W.nsIn K mainGlobals "list" = some none)
    (zsrt : PySem.W.nsIn K mainGlobals "sorted" = some none)
    (zset : PySem.W.nsIn K mainGlobals "set" = some none)
    (zrng : PySem.W.nsIn K mainGlobals "range" = some none)
    (zrepr : PySem.W.nsIn K mainGlobals "repr" = some none)
    (zenum : PySem.W.nsIn K mainGlobals "enumerate" = some none)
    : ∃ fd : FuncData, (∀ (s : Shared) (v : Value), BindsTo s fd ⟨[v], []⟩ [("_law_script", v)]) ∧ ∀ base : Heap, K.In base → base.Ns mainGlobals mg → FnG l.prog w K mg base CX0 10 fa fd ["_law_script"] (spLaw2 K) := by
  have e := hfa.symm.trans (PySem.W.mg_of X G gLw)
  cases e
  have g8 := clsG_of hall
  have gX8 := clsG_of hallX
  have M := mcls_of g8
  have XM := xcls_of gX8
  have T : Txt8 K mg := ⟨PySem.W.mg_none_of X G zisi, PySem.W.mg_none_of X G zint, PySem.W.mg_none_of X G zbool, PySem.W.mg_none_of X G zstr, PySem.W.mg_none_of X G ztup, PySem.W.mg_none_of X G zlen, PySem.W.mg_none_of X G zlst, PySem.W.mg_none_of X G zsrt, PySem.W.mg_none_of X G zset, PySem.W.mg_none_of X G zrng⟩
  have gMC := PySem.W.mg_of X G aC
  have gXC := PySem.W.mg_of X G aX
  have gBM := PySem.W.mg_of X G aBM
  have TK := ecK_of hE
  have gLE := PySem.W.mg_of X G aL
  have gKI := PySem.W.mg_of X G aKI
  have TU : EcI K CE e0 "part" := ⟨n0, i0, t0, by decide, by decide, ⟨_, _, _, _, _, _, _, _, _, _, _, _, _, _, _, x0, y0⟩, fun _ _ _ _ _ _ _ _ _ _ _ _ _ _ => rfl, fun _ _ _ _ _ _ _ _ _ _ _ _ _ _ => rfl⟩
  have FN := fun_mk (st := sNum) lN wN kN
  have BN := FN.binds (ps := ["thing"]) fun _ _ _ _ _ _ us hl => match us, hl with | [_], _ => rfl
  have mN := PySem.W.mg_of X G gN
  have FE := fun_mk (st := sLet) lE wE kE
  have BE := FE.binds (ps := ["thing"]) fun _ _ _ _ _ _ us hl => match us, hl with | [_], _ => rfl
  have mE := PySem.W.mg_of X G gE
  have FS := fun_mk (st := sState) lS wS kS
  have BS := FS.binds (ps := ["thing", "size"]) fun _ _ _ _ _ _ us hl => match us, hl with | [_, _], _ => rfl
  have mS := PySem.W.mg_of X G gS
  have FM := fun_mk (st := sMove) lM wM kM
  have BM := FM.binds (ps := ["thing", "size"]) fun _ _ _ _ _ _ us hl => match us, hl with | [_, _], _ => rfl
  have mM := PySem.W.mg_of X G gM
  have FC := fun_mk (st := sMoves) lC wC kC
  have BC := FC.binds (ps := ["size", "moves"]) fun _ _ _ _ _ _ us hl => match us, hl with | [_, _], _ => rfl
  have mC := PySem.W.mg_of X G gC
  have FX := fun_mk (st := sEnds) lX wX kX
  have BX := FX.binds (ps := ["moves", "end"]) fun _ _ _ _ _ _ us hl => match us, hl with | [_, _], _ => rfl
  have mX := PySem.W.mg_of X G gX
  have FR := fun_mk (st := sReached) lR wR kR
  have BR := FR.binds (ps := ["size", "start", "steps"]) fun _ _ _ _ _ _ us hl => match us, hl with | [_, _, _], _ => rfl
  have mR := PySem.W.mg_of X G gR
  have FP := fun_mk (st := sPaths) lP wP kP
  have BP := FP.binds (ps := ["size", "first", "last", "moves"]) fun _ _ _ _ _ _ us hl => match us, hl with | [_, _, _, _], _ => rfl
  have mP := PySem.W.mg_of X G gP
  have FK := fun_mk (st := sCheck) lK wK kK
  have BK := FK.binds (ps := ["size", "first", "last", "moves"]) fun _ _ _ _ _ _ us hl => match us, hl with | [_, _, _, _], _ => rfl
  have mK := PySem.W.mg_of X G gK
  have FNp := fun_mk (st := sXNum) lNp wNp kNp
  have BNp := FNp.binds (ps := ["kind", "many"]) fun _ _ _ _ _ _ us hl => match us, hl with | [_, _], _ => rfl
  have mNp := PySem.W.mg_of X G gNp
  have FCe := fun_mk (st := sXCheck) lCe wCe kCe
  have BCe := FCe.binds (ps := ["kind", "parts"]) fun _ _ _ _ _ _ us hl => match us, hl with | [_, _], _ => rfl
  have mCe := PySem.W.mg_of X G gCe
  have FLt := fun_mk (st := sXLet) lLt wLt kLt
  have BLt := FLt.binds (ps := ["sign"]) fun _ _ _ _ _ _ us hl => match us, hl with | [_], _ => rfl
  have mLt := PySem.W.mg_of X G gLt
  have FDk := fun_mk (st := sDeck) lDk wDk kDk
  have BDk := FDk.binds (ps := ["_law_script"]) fun _ _ _ _ _ _ us hl => match us, hl with | [_], _ => rfl
  have mDk := PySem.W.mg_of X G gDk
  have FDr := fun_mk (st := sDraw) lDr wDr kDr
  have BDr := FDr.binds (ps := ["_law_deck_here", "_law_below"]) fun _ _ _ _ _ _ us hl => match us, hl with | [_, _], _ => rfl
  have mDr := PySem.W.mg_of X G gDr
  have FPi := fun_mk (st := sPick) lPi wPi kPi
  have BPi := FPi.binds (ps := ["_law_deck_here", "_law_menu"]) fun _ _ _ _ _ _ us hl => match us, hl with | [_, _], _ => rfl
  have mPi := PySem.W.mg_of X G gPi
  have FLd := fun_mk (st := sLed) lLd wLd kLd
  have BLd := FLd.binds (ps := ["_law_begin", "_law_pairs"]) fun _ _ _ _ _ _ us hl => match us, hl with | [_, _], _ => rfl
  have mLd := PySem.W.mg_of X G gLd
  have FWo := fun_mk (st := sWorld) lWo wWo kWo
  have BWo := FWo.binds (ps := ["_law_deck_here", "_law_top", "_law_many"]) fun _ _ _ _ _ _ us hl => match us, hl with | [_, _, _], _ => rfl
  have mWo := PySem.W.mg_of X G gWo
  have FOd := fun_mk (st := sLOdd) lOd wOd kOd
  have BOd := FOd.binds (ps := ["_law_deck_here"]) fun _ _ _ _ _ _ us hl => match us, hl with | [_], _ => rfl
  have mOd := PySem.W.mg_of X G gOd
  have FPn := fun_mk (st := sLPlain) lPn wPn kPn
  have BPn := FPn.binds (ps := ["_law_w"]) fun _ _ _ _ _ _ us hl => match us, hl with | [_], _ => rfl
  have mPn := PySem.W.mg_of X G gPn
  have FPa := fun_mk (st := sLParts) lPa wPa kPa
  have BPa := FPa.binds (ps := ["_law_it"]) fun _ _ _ _ _ _ us hl => match us, hl with | [_], _ => rfl
  have mPa := PySem.W.mg_of X G gPa
  have FBe := fun_mk (st := sLBent) lBe wBe kBe
  have BBe := FBe.binds (ps := ["_law_deck_here", "_law_it"]) fun _ _ _ _ _ _ us hl => match us, hl with | [_, _], _ => rfl
  have mBe := PySem.W.mg_of X G gBe
  have FNu := fun_mk (st := sLNumb) lNu wNu kNu
  have BNu := FNu.binds (ps := ["_law_it"]) fun _ _ _ _ _ _ us hl => match us, hl with | [_], _ => rfl
  have mNu := PySem.W.mg_of X G gNu
  have FPl := fun_mk (st := sLPlace) lPl wPl kPl
  have BPl := FPl.binds (ps := ["_law_it", "_law_wide"]) fun _ _ _ _ _ _ us hl => match us, hl with | [_, _], _ => rfl
  have mPl := PySem.W.mg_of X G gPl
  have FMv := fun_mk (st := sLMove) lMv wMv kMv
  have BMv := FMv.binds (ps := ["_law_it", "_law_wide"]) fun _ _ _ _ _ _ us hl => match us, hl with | [_, _], _ => rfl
  have mMv := PySem.W.mg_of X G gMv
  have FTw := fun_mk (st := sLTwice) lTw wTw kTw
  have BTw := FTw.binds (ps := ["_law_ways", "_law_at"]) fun _ _ _ _ _ _ us hl => match us, hl with | [_, _], _ => rfl
  have mTw := PySem.W.mg_of X G gTw
  have FWr := fun_mk (st := sLWrong) lWr wWr kWr
  have BWr := FWr.binds (ps := ["_law_plan"]) fun _ _ _ _ _ _ us hl => match us, hl with | [_], _ => rfl
  have mWr := PySem.W.mg_of X G gWr
  have FHd := fun_mk (st := sLHeard) lHd wHd kHd
  have BHd := FHd.binds (ps := ["_law_plan", "_law_is_named"]) fun _ _ _ _ _ _ us hl => match us, hl with | [_, _], _ => rfl
  have mHd := PySem.W.mg_of X G gHd
  have FRt := fun_mk (st := sLRight) lRt wRt kRt
  have BRt := FRt.binds (ps := ["_law_plan", "_law_mate"]) fun _ _ _ _ _ _ us hl => match us, hl with | [_, _], _ => rfl
  have mRt := PySem.W.mg_of X G gRt
  have FLw := fun_mk (st := sLaw2) lLw wLw kLw
  have mLw := PySem.W.mg_of X G gLw
  have FI := fun_mk (st := sInit) lI wI kI
  have BI := FI.binds (ps := ["self", "size", "first", "last", "moves"]) fun _ _ _ _ _ _ us hl => match us, hl with | [_, _, _, _, _], _ => rfl
  have FEq := fun_mk (st := sEq) lEq wEq kEq
  have BEq := FEq.binds (ps := ["self", "other"]) fun _ _ _ _ _ _ us hl => match us, hl with | [_, _], _ => rfl
  have FLn := fun_mk (st := sMLen) lLn wLn kLn
  have BLn := FLn.binds (ps := ["self"]) fun _ _ _ _ _ _ us hl => match us, hl with | [_], _ => rfl
  have FXe := fun_mk (st := sXEq) lXe wXe kXe
  have BXe := FXe.binds (ps := ["self", "other"]) fun _ _ _ _ _ _ us hl => match us, hl with | [_, _], _ => rfl
  have FXI : FunD K "__init__" "Expression.__init__" (defArgs sXInit) (defBody sXInit) (defScope sXInit) [.ref aE] [] fXI _ := ⟨⟨_, _, _, _, _, _, _, _, _, _, rfl, lXI, wXI, .inr ⟨by simp, aT, _, [.ref aE], _, rfl, lDf, rfl, .cons rfl .nil⟩, .inl rfl⟩, kXI⟩
  obtain ⟨dsX, hdX, BXI⟩ := FXI.binds1 (ps := ["self", "kind", "parts"]) 3 1 (by simp) rfl fun _ _ _ _ _ _ _ us its h1 h2 => match us, its, h1, h2 with | [_, _, _], [_], _, _ => ⟨_, rfl, rfl⟩
  cases hdX
  have hKI : ∀ H : Hp, SqT K H aK [.str "one", .str "letter", .str "row", .str "choice", .str "loop", .str "some", .str "maybe"] := fun H => .inr ⟨_, _, _, lKI, rfl, rfl, by show 7 ≤ sizeLine; decide, .cons ⟨_, rfl⟩ (.cons ⟨_, rfl⟩ (.cons ⟨_, rfl⟩ (.cons ⟨_, rfl⟩ (.cons ⟨_, rfl⟩ (.cons ⟨_, rfl⟩ (.cons ⟨_, rfl⟩ .nil))))))⟩
  have MK : L2.Mk K C fI := ⟨g8.mks, gI, iI, g8.kp⟩
  have MKX : L2.Mk K CX fXI := ⟨gX8.mks, gXI, iXI, gX8.kp⟩
  refine ⟨PySem.W.fnOf "law" "law" (defArgs sLaw2) (defBody sLaw2) (defScope sLaw2) .none kVLw dcLw pmLw anLw cdLw ctLw, fun s v => .of_eq rfl, fun base _ _ => ?_⟩
  have GM := ok_move (P := l.prog) (w := w) (mg := mg) (base := base) FM T FN mN BN FS mS BS FE mE BE
  obtain ⟨fd0, _⟩ : ∃ fd0 : FuncData, fd0 = fd0 := ⟨PySem.W.fnOf "law" "law" (defArgs sLaw2) (defBody sLaw2) (defScope sLaw2) .none kVLw dcLw pmLw anLw cdLw ctLw, rfl⟩
  have GC := ok_moves (fN := fN) (fS := fN) (fE := fN) (fdN := fd0) (fdS := fd0) (fdE := fd0) FC T FM mM BM GM
  have GP := ok_paths (P := l.prog) (w := w) (mg := mg) (base := base) FP T FR mR BR
  have GPx := ok_pathsX (P := l.prog) (w := w) (mg := mg) (base := base) FP T TK TU gBM FR mR BR
  have hmost := PySem.W.mg_of X G aMost
  have GK := ok_check FK T hmost FN mN BN FS mS BS FC mC BC GC FX mX BX FP mP BP GP
  have GKg := ok_checkG FK T TK TU gBM hmost FN mN BN FS mS BS FC mC BC GC FX mX BX FP mP BP GPx
  have GMd := ok_moveD (P := l.prog) (w := w) (mg := mg) (base := base) FM T FN mN BN FS mS BS FE mE BE
  have GCx := ok_movesX FC T TK TU gBM FM mM BM GMd
  have GKy := ok_checkY FK T TK TU gBM hmost FN mN BN FS mS BS FC mC BC GCx
  have GKx := ok_checkX GKy GKg
  have GI := ok_init FI T M FK mK BK GK
  have GIx := ok_initX (C := CE) FI FK mK BK GKx
  have BKI := kbn_init FI fun _ _ _ _ _ _ _ _ _ _ _ => rfl
  have GDk := ok_deck (P := l.prog) (w := w) (mg := mg) (base := base) FDk T.int
  have GDr := ok_draw (P := l.prog) (w := w) (mg := mg) (base := base) FDr T.int
  have GPs := ok_pickS FPi FDr mDr BDr GDr T.len
  have GPi := ok_pickL FPi FDr mDr BDr GDr T.len
  have GLd := ok_led (P := l.prog) (w := w) (mg := mg) (base := base) FLd T
  have GWo := ok_world FWo T GDr mDr kDr BDr GPs GPi mPi kPi BPi GLd mLd kLd BLd
  have GPn := ok_plain (P := l.prog) (w := w) (mg := mg) (base := base) FPn
  have GPa := ok_lparts (P := l.prog) (w := w) (mg := mg) (base := base) FPa M
  have GOd := ok_odd FOd GPi mPi kPi BPi
  have GBe := ok_bent FBe T GDr mDr kDr BDr GPi mPi kPi BPi GOd mOd kOd BOd mBe kBe BBe 6
  have GNu := ok_lnum (P := l.prog) (w := w) (mg := mg) (base := base) FNu T
  have GPl := ok_lplace FPl GNu mNu kNu BNu
  have GMv := ok_lmove FMv T GPl mPl kPl BPl
  have GTw := ok_ltwice (P := l.prog) (w := w) (mg := mg) (base := base) FTw T (PySem.W.mg_none_of X G zenum)
  have GWr := ok_wrong FWr T GNu mNu kNu BNu GPl mPl kPl BPl GMv mMv kMv BMv GTw mTw kTw BTw GLd mLd kLd BLd
  have GHd := ok_heardX FHd T TK gBM n0 mE0 gLE kL9 gMC MK BI BKI GI GIx
  have GLn := ok_mlen (P := l.prog) (w := w) (mg := mg) (base := base) FLn T M
  have GEa := ok_eqA (P := l.prog) (w := w) (mg := mg) (base := base) FEq T M g8.ic gMC
  have GEn := ok_eqN (P := l.prog) (w := w) (mg := mg) (base := base) FEq T gMC
  have GRt := ok_right FRt T (PySem.W.mg_none_of X G zrepr) gMC g8.ic GWr mWr kWr BWr GHd mHd kHd BHd GPa mPa kPa BPa GLn gLn iLn BLn GEa GEn gEq iEq BEq g8.ob hne g8.nf nfT nfS kiT kiS
  have GNp := ok_nop (P := l.prog) (w := w) (mg := mg) (base := base) FNp
  have GLe := ok_letD (P := l.prog) (w := w) (mg := mg) (base := base) FE T
  have GCe := ok_xcheck FCe T gXC gKI hKI GNp mNp kNp BNp GLe mE kE BE
  have GXI := ok_xinit (x := "") (qual := "") (pms := defArgs sXInit) FXI XM GCe mCe kCe BCe
  have GLt := ok_xlet FLt gXC MKX BXI GXI
  have GXe := ok_xeq (P := l.prog) (w := w) (mg := mg) (base := base) FXe T gXC
  exact ok_law2 FLw T GDk mDk kDk BDk GWo mWo kWo BWo GPn mPn kPn BPn GWr mWr kWr BWr GRt mRt kRt BRt GDr mDr kDr BDr GPi mPi kPi BPi GBe mBe kBe BBe gMC MK BI GI GLt mLt kLt BLt GEn gEq iEq BEq GXe gXe iXe BXe g8.ob hne nfX nfM kXM kMX g8.ic gX8.ic
end Vk
set_option Elab.async false
open PySem PySem.W PyProof.Rows
set_option maxRecDepth 100000 in
set_option maxHeartbeats 0 in
theorem PySem.Challenge.cw_loopsdeep_k02_machines_of_any_value_holds : PySem.Challenge.rw_loopsdeep_k02_machines_of_any_value.Holds := by
  w_on; o_law; k_head; (case hw => w_witness2)
  k_fill
  refine Vk.walkG (l := PySem.Challenge.rw_loopsdeep_k02_machines_of_any_value) (n := 63) (k := 10) (x := "_law_script") (CX := fun _ => L2.CX0) (sp := fun w => Vk.spLaw2 _) rfl (by decide) rfl ⟨rfl, by decide, by decide⟩ (fun w h Y => PySem.W.kIn_of Y) ?F (fun _ _ a ns hl _ hS => ⟨a, ns, rfl, hS, hl, fun _ => rfl⟩) (fun _ _ _ _ _ z => z)
  case F =>
    intro w mg fa h KX G hmg
    refine' Vk.all8_mk (odK := none) (slK := #[]) KX G hmg ?v_aC ?v_hall ?v_aX ?v_hallX ?v_nfT ?v_nfS ?v_nfX ?v_nfM ?v_kiT ?v_kiS ?v_kXM ?v_kMX ?v_hne ?v_aKI ?v_lKI ?v_aMost ?v_aBM ?v_hE ?v_mE0 ?v_n0 ?v_i0 ?v_t0 ?v_x0 ?v_y0 ?v_aL ?v_kL9 ?v_gN ?v_lN ?v_wN ?v_kN ?v_gE ?v_lE ?v_wE ?v_kE ?v_gS ?v_lS ?v_wS ?v_kS ?v_gM ?v_lM ?v_wM ?v_kM ?v_gC ?v_lC ?v_wC ?v_kC ?v_gX ?v_lX ?v_wX ?v_kX ?v_gR ?v_lR ?v_wR ?v_kR ?v_gP ?v_lP ?v_wP ?v_kP ?v_gK ?v_lK ?v_wK ?v_kK ?v_gNp ?v_lNp ?v_wNp ?v_kNp ?v_gCe ?v_lCe ?v_wCe ?v_kCe ?v_gLt ?v_lLt ?v_wLt ?v_kLt ?v_gDk ?v_lDk ?v_wDk ?v_kDk ?v_gDr ?v_lDr ?v_wDr ?v_kDr ?v_gPi ?v_lPi ?v_wPi ?v_kPi ?v_gLd ?v_lLd ?v_wLd ?v_kLd ?v_gWo ?v_lWo ?v_wWo ?v_kWo ?v_gOd ?v_lOd ?v_wOd ?v_kOd ?v_gPn ?v_lPn ?v_wPn ?v_kPn ?v_gPa ?v_lPa ?v_wPa ?v_kPa ?v_gBe ?v_lBe ?v_wBe ?v_kBe ?v_gNu ?v_lNu ?v_wNu ?v_kNu ?v_gPl ?v_lPl ?v_wPl ?v_kPl ?v_gMv ?v_lMv ?v_wMv ?v_kMv ?v_gTw ?v_lTw ?v_wTw ?v_kTw ?v_gWr ?v_lWr ?v_wWr ?v_kWr ?v_gHd ?v_lHd ?v_wHd ?v_kHd ?v_gRt ?v_lRt ?v_wRt ?v_kRt ?v_gLw ?v_lLw ?v_wLw ?v_kLw ?v_gI ?v_iI ?v_lI ?v_wI ?v_kI ?v_gEq ?v_iEq ?v_lEq ?v_wEq ?v_kEq ?v_gLn ?v_iLn ?v_lLn ?v_wLn ?v_kLn ?v_gXe ?v_iXe ?v_lXe ?v_wXe ?v_kXe ?v_gXI ?v_iXI ?v_lXI ?v_wXI ?v_kXI ?v_lDf ?v_zisi ?v_zint ?v_zbool ?v_zstr ?v_ztup ?v_zlen ?v_zlst ?v_zsrt ?v_zset ?v_zrng ?v_zrepr ?v_zenum
    (case v_aC => k_is)
    (case v_hall => kernel_rfl)
    (case v_aX => k_is)
    (case v_hallX => kernel_rfl)
    (case v_nfT => kernel_rfl)
    (case v_nfS => kernel_rfl)
    (case v_nfX => kernel_rfl)
    (case v_nfM => kernel_rfl)
    (case v_kiT => kernel_rfl)
    (case v_kiS => kernel_rfl)
    (case v_kXM => kernel_rfl)
    (case v_kMX => kernel_rfl)
    (case v_hne => k_is)
    (case v_aKI => k_is)
    (case v_lKI => k_is)
    (case v_aMost => k_is)
    (case v_aBM => k_is)
    (case v_hE => kernel_rfl)
    (case v_mE0 => kernel_rfl)
    (case v_n0 => k_is)
    (case v_i0 => k_is)
    (case v_t0 => k_is)
    (case v_x0 => k_is)
    (case v_y0 => k_is)
    (case v_aL => k_is)
    (case v_kL9 => kernel_rfl)
    (case v_gN => k_is)
    (case v_lN => k_is)
    (case v_wN => k_is)
    (case v_kN => k_is)
    (case v_gE => k_is)
    (case v_lE => k_is)
    (case v_wE => k_is)
    (case v_kE => k_is)
    (case v_gS => k_is)
    (case v_lS => k_is)
    (case v_wS => k_is)
    (case v_kS => k_is)
    (case v_gM => k_is)
    (case v_lM => k_is)
    (case v_wM => k_is)
    (case v_kM => k_is)
    (case v_gC => k_is)
    (case v_lC => k_is)
    (case v_wC => k_is)
    (case v_kC => k_is)
    (case v_gX => k_is)
    (case v_lX => k_is)
    (case v_wX => k_is)
    (case v_kX => k_is)
    (case v_gR => k_is)
    (case v_lR => k_is)
    (case v_wR => k_is)
    (case v_kR => k_is)
    (case v_gP => k_is)
    (case v_lP => k_is)
    (case v_wP => k_is)
    (case v_kP => k_is)
    (case v_gK => k_is)
    (case v_lK => k_is)
    (case v_wK => k_is)
    (case v_kK => k_is)
    (case v_gNp => k_is)
    (case v_lNp => k_is)
    (case v_wNp => k_is)
    (case v_kNp => k_is)
    (case v_gCe => k_is)
    (case v_lCe => k_is)
    (case v_wCe => k_is)
    (case v_kCe => k_is)
    (case v_gLt => k_is)
    (case v_lLt => k_is)
    (case v_wLt => k_is)
    (case v_kLt => k_is)
    (case v_gDk => k_is)
    (case v_lDk => k_is)
    (case v_wDk => k_is)
    (case v_kDk => k_is)
    (case v_gDr => k_is)
    (case v_lDr => k_is)
    (case v_wDr => k_is)
    (case v_kDr => k_is)
    (case v_gPi => k_is)
    (case v_lPi => k_is)
    (case v_wPi => k_is)
    (case v_kPi => k_is)
    (case v_gLd => k_is)
    (case v_lLd => k_is)
    (case v_wLd => k_is)
    (case v_kLd => k_is)
    (case v_gWo => k_is)
    (case v_lWo => k_is)
    (case v_wWo => k_is)
    (case v_kWo => k_is)
    (case v_gOd => k_is)
    (case v_lOd => k_is)
    (case v_wOd => k_is)
    (case v_kOd => k_is)
    (case v_gPn => k_is)
    (case v_lPn => k_is)
    (case v_wPn => k_is)
    (case v_kPn => k_is)
    (case v_gPa => k_is)
    (case v_lPa => k_is)
    (case v_wPa => k_is)
    (case v_kPa => k_is)
    (case v_gBe => k_is)
    (case v_lBe => k_is)
    (case v_wBe => k_is)
    (case v_kBe => k_is)
    (case v_gNu => k_is)
    (case v_lNu => k_is)
    (case v_wNu => k_is)
    (case v_kNu => k_is)
    (case v_gPl => k_is)
    (case v_lPl => k_is)
    (case v_wPl => k_is)
    (case v_kPl => k_is)
    (case v_gMv => k_is)
    (case v_lMv => k_is)
    (case v_wMv => k_is)
    (case v_kMv => k_is)
    (case v_gTw => k_is)
    (case v_lTw => k_is)
    (case v_wTw => k_is)
    (case v_kTw => k_is)
    (case v_gWr => k_is)
    (case v_lWr => k_is)
    (case v_wWr => k_is)
    (case v_kWr => k_is)
    (case v_gHd => k_is)
    (case v_lHd => k_is)
    (case v_wHd => k_is)
    (case v_kHd => k_is)
    (case v_gRt => k_is)
    (case v_lRt => k_is)
    (case v_wRt => k_is)
    (case v_kRt => k_is)
    (case v_gLw => k_is)
    (case v_lLw => k_is)
    (case v_wLw => k_is)
    (case v_kLw => k_is)
    (case v_gI => k_is)
    (case v_iI => k_is)
    (case v_lI => k_is)
    (case v_wI => k_is)
    (case v_kI => k_is)
    (case v_gEq => k_is)
    (case v_iEq => k_is)
    (case v_lEq => k_is)
    (case v_wEq => k_is)
    (case v_kEq => k_is)
    (case v_gLn => k_is)
    (case v_iLn => k_is)
    (case v_lLn => k_is)
    (case v_wLn => k_is)
    (case v_kLn => k_is)
    (case v_gXe => k_is)
    (case v_iXe => k_is)
    (case v_lXe => k_is)
    (case v_wXe => k_is)
    (case v_kXe => k_is)
    (case v_gXI => k_is)
    (case v_iXI => k_is)
    (case v_lXI => k_is)
    (case v_wXI => k_is)
    (case v_kXI => k_is)
    (case v_lDf => k_is)
    (case v_zisi => k_is)
    (case v_zint => k_is)
    (case v_zbool => k_is)
    (case v_zstr => k_is)
    (case v_ztup => k_is)
    (case v_zlen => k_is)
    (case v_zlst => k_is)
    (case v_zsrt => k_is)
    (case v_zset => k_is)
    (case v_zrng => k_is)
    (case v_zrepr => k_is)
    (case v_zenum => k_is)
#print axioms PySem.Challenge.cw_loopsdeep_k02_machines_of_any_value_holds
