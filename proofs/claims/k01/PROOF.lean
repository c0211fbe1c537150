import PyProof.Rows.All
import Wide.All
import OpenK.AllK
import Wide.FinOn
import KE.KExcIs
import HandS.ForMost
import HandS.Exc
import HandS.ExcOwn
import HandS.ExcValue
import HandS.Style
import HandS.WordsExc
import PySem.Challenge.RW_loopsdeep_k01_errors
set_option Elab.async false
set_option linter.all false
set_option maxRecDepth 100000
set_option maxHeartbeats 4000000
namespace PySem
namespace Vx
open PySem.W PySem.Calls PyProof.Rows PySem.HandSPX
/-! ### an own exception class is called, with keywords -/
section
variable {M : Model} {A : Around} {E : Value → Shared → Prop} {h : Heap} {g : Array GenState} {d : Drawn} {t : Nat} {os : OsState}
variable {nm q : Str} {C N : Addr} {bs bm bmB : List Value} {hdct : Bool} {sn : List Str} {sub : List Value} {ab : Bool} {col : Option Bool} {dd : Option Addr} {k0 k1 k2 k3 k5 : Option Value} {B newId initId : String}
theorem chkNew (F : ExcBaseFacts B newId initId bmB) (tl : ∀ T : String, bm.contains (.type T) = bmB.contains (.type T)) {rest : List Value} {kw : List (Str × Value)} {Q : Unit → Shared → Prop}
    (hC : h.get? C = some (excClassObj nm q C N bs bm hdct sn sub ab col dd k0 k1 k2 k3 k5 newId)) (go : Q () ⟨h, g, d, t, os⟩) : wpAny M A (checkBuiltinCall newId ⟨.ref C :: rest, kw⟩) Q E ⟨h, g, d, t, os⟩ := by
  have isB : (Value.ref C :: bm).contains (.type B) = true := by rw [List.contains_cons, tl, F.hasB, Bool.or_true]
  have st := F.noStar
  simp only [checkBuiltinCall, F.newKind, F.newSplit, F.newRow]
  repeat (first | refine wpAny_loadPart_at hC ?_ | (refine wpAny_isSubtype_exc hC ?_; rw [isB]) | refine wpAny_staticBase_exc hC ?_ | refine wpAny_madeBy_exc hC ?_ | simp only [bne_self_eq_false, Bool.false_eq_true, if_false] | wp_step)

  exact go
theorem chkCall {rest : List Value} {kw : List (Str × Value)} {Q : Unit → Shared → Prop} (hC : h.get? C = some (excClassObj nm q C N bs bm hdct sn sub ab col dd k0 k1 k2 k3 k5 newId)) (go : Q () ⟨h, g, d, t, os⟩) :
    wpAny M A (checkBuiltinCall "type.__call__" ⟨.ref C :: rest, kw⟩) Q E ⟨h, g, d, t, os⟩ := by
  have u3 := tc_sub
  have hT : (⟨h, g, d, t, os⟩ : Shared).TypeIs (.ref C) "type" := ⟨_, hC, rfl⟩
  simp only [checkBuiltinCall, tc_kind, tc_split]
  repeat (any_goals (first | assumption | with_reducible refine wpAny_loadPart_at hC ?_ | with_reducible refine wpAny_onRaise ?_ | with_reducible refine wpAny_map ?_ | wp_step))
end
section
variable {prog : Program} {w : World} {A : Around} {E : Value → Shared → Prop} {R : Result → Shared → Prop} {h : Heap} {g : Array GenState} {d : Drawn} {t : Nat} {os : OsState}
variable {nm q : Str} {C N : Addr} {bs bm bmB : List Value} {hdct : Bool} {sn : List Str} {sub : List Value} {ab : Bool} {col : Option Bool} {dd : Option Addr} {k0 k1 k2 k3 k5 : Option Value} {B newId initId : String}
theorem newE (F : ExcBaseFacts B newId initId bmB) (tl : ∀ T : String, bm.contains (.type T) = bmB.contains (.type T)) {rest : List Value} {kw : List (Str × Value)}
    (hC : h.get? C = some (excClassObj nm q C N bs bm hdct sn sub ab col dd k0 k1 k2 k3 k5 newId)) (few : rest.length ≤ sizeLine)
    (go : R (.ok (.ret (.ref (h.objs.size + 1)))) ⟨(h.push (W.kdv_tup rest)).push (excO C h.objs.size), g, d, t, os⟩) :
    codeAny (model prog w) A (.builtin newId ⟨.ref C :: rest, kw⟩) R ⟨h, g, d, t, os⟩ := by
  have en := F.ends
  have isB : (Value.ref C :: bm).contains (.type B) = true := by rw [List.contains_cons, tl, F.hasB, Bool.or_true]
  have noA : (Value.ref C :: bm).contains (.type "AttributeError") = false := by rw [List.contains_cons, tl, F.noAttr]; rfl
  have noN : (Value.ref C :: bm).contains (.type "NameError") = false := by rw [List.contains_cons, tl, F.noName]; rfl
  refine codeAny_builtinAt F.entry ?_
  unfold Builtin.«BaseException.__new__»
  refine wpAt_bind ?_
  show wpAt _ _ _ (stack >>= _) _ _ _
  refine wpAt_bind (wpAt_stack fun p below => wpAt_of_wpAny ?_)
  wp_walk
  refine wpAt_of_wpAny ?_
  rw [F.owner]
  repeat (first | with_reducible refine wpAny_madeHere_exc F.canon hC ?_ | with_reducible refine wpAny_loadPart_at hC ?_ | (with_reducible refine wpAny_isSubtype_exc hC ?_; first | rw [isB] | rw [noA] | rw [noN]) | wp_step)
  show R _ _
  rw [Heap.size_push]
  exact go
theorem typeCallE (F : ExcBaseFacts B newId initId bmB) (tl : ∀ T : String, bm.contains (.type T) = bmB.contains (.type T)) {rest : List Value} {kw : List (Str × Value)} {fI : Addr} {Q : Fin → Shared → Prop}
    (hC : h.get? C = some (excClassObj nm q C N bs bm hdct sn sub ab col dd k0 k1 k2 k3 k5 newId))
    (hi : W.Looks (model prog w) h (typeLookup (.ref C) "__init__") (some (.ref fI))) (hb : ∀ self, W.Looks (model prog w) h (bindSpecial (.ref fI) self) (.ref fI, [self])) (few : rest.length ≤ sizeLine)
    (go : codeAny (model prog w) A (.call (.ref fI) ⟨.ref (h.objs.size + 1) :: rest, kw⟩)
      (fun r s' => match r with | .ok (.ret v) => v = .none ∧ Q (.done (.ret (.ref (h.objs.size + 1)))) s' | .ok _ => False | .error e => E e s') ⟨(h.push (W.kdv_tup rest)).push (excO C h.objs.size), g, d, t, os⟩) :
    wpAny (model prog w) A (Builtin.«type.__call__» ⟨.ref C :: rest, kw⟩) Q E ⟨h, g, d, t, os⟩ := by
  repeat (first | with_reducible refine wpAny_loadPart_at hC ?_ | with_reducible refine wpAny_madeBy_exc hC ?_ | wp_step)
  refine codeAny_call_builtin_code (Code.quiet_builtin _ F.quiet) (chkNew F tl hC ?_)
  refine newE F tl hC few ?_
  show wpAny _ _ _ _ _ _
  have kp : ∀ b o, h.get? b = some o → ((h.push (W.kdv_tup rest)).push (excO C h.objs.size)).get? b = some o := fun b o e => Heap.get?_push_of_some _ (Heap.get?_push_of_some _ e)
  have hC2 := kp _ _ hC
  have at2 : ((h.push (W.kdv_tup rest)).push (excO C h.objs.size)).get? (h.objs.size + 1) = some (excO C h.objs.size) := by heap_get
  have self : (Value.ref C :: bm).contains (.ref C) = true := by simp
  have ii := hi.keeps kp
  have bb := (hb (.ref (h.objs.size + 1))).keeps kp
  unfold isInstance
  repeat (first | with_reducible refine wpAny_loadPart_at at2 ?_ | (with_reducible refine wpAny_isSubtype_exc hC2 ?_; rw [self]) | wp_step)
  show wpAny _ _ (typeLookup (.ref C) _) _ _ _
  refine ii.at ?_
  refine wpAny_holding (wpAny_bind (bb.at ?_))
  refine wpAny_bind (wpAny_call (codeAny_mono go fun r s' z => ?_))
  rcases r with e | (v | _ | _ | _) <;> first | exact z | exact z.elim | skip
  obtain ⟨rfl, z⟩ := z
  first
    | exact wpAny_pure (wpAny_pure z)
    | (wp_walk; exact z)
theorem callE (F : ExcBaseFacts B newId initId bmB) (tl : ∀ T : String, bm.contains (.type T) = bmB.contains (.type T)) {rest : List Value} {kw : List (Str × Value)} {fI : Addr}
    (hC : h.get? C = some (excClassObj nm q C N bs bm hdct sn sub ab col dd k0 k1 k2 k3 k5 newId))
    (hi : W.Looks (model prog w) h (typeLookup (.ref C) "__init__") (some (.ref fI))) (hb : ∀ self, W.Looks (model prog w) h (bindSpecial (.ref fI) self) (.ref fI, [self])) (few : rest.length ≤ sizeLine)
    (go : codeAny (model prog w) (A.under (.builtin "type.__call__" ⟨.ref C :: rest, kw⟩)) (.call (.ref fI) ⟨.ref (h.objs.size + 1) :: rest, kw⟩) (W.InitBack (h.objs.size + 1) R) ⟨(h.push (W.kdv_tup rest)).push (excO C h.objs.size), g, d, t, os⟩) :
    codeAny (model prog w) A (.call (.ref C) ⟨rest, kw⟩) R ⟨h, g, d, t, os⟩ := by
  have u1 := tc_lookup
  have u2 := tc_bind (.ref C)
  have hTy : (⟨h, g, d, t, os⟩ : Shared).TypeIs (.ref C) "type" := ⟨_, hC, rfl⟩
  refine codeAny_of_tree ?_
  show wpAny _ _ (callAny (.ref C) _) _ _ _
  repeat (any_goals (first | assumption | with_reducible refine wpAny_loadPart_at hC ?_ | wp_step))
  refine ⟨rfl, ?_⟩
  refine codeAny_call_builtin_at (Code.quiet_builtin _ (by decide +kernel)) entry_typeCall (chkCall hC (typeCallE F tl hC hi hb few ?_))
  refine codeAny_mono go fun r s' z => ?_
  rcases r with e | (v | _ | _ | _) <;> exact z
end
end Vx
end PySem
set_option Elab.async false
set_option linter.all false
set_option maxRecDepth 100000
set_option maxHeartbeats 4000000
namespace Vk
open PySem PySem.Spec PyProof.Rows L2
/-! ## a def's promise where no repr is under way -/
structure FnG (P : Program) (w : World) (K : PySem.W.Frag) (mg : Str → Option Value) (base : Heap) (CX : CXT) (k : Nat) (f : Addr) (fd : FuncData) (ps : List Str) (sp : Sp) : Prop where
  len : ∀ vs H Q E, sp vs H Q E → vs.length = ps.length
  run : ∀ (A : Around) (outer : List Env) (s : Shared) (H : Hp) (args : Args) (us : List Value) (vs : List V) (Q : VK) (E : XK), A.guards = some [] → Room k A → Env0 P w K mg base A outer s H →
    BindsTo s fd args (ps.zip us) → Vals vs us → sp vs H Q E → codeAny (model P w) A (.call (.ref f) args) (CR CX outer P w H s Q E) s
section
variable {P : Program} {w : World} {K : PySem.W.Frag} {mg : Str → Option Value} {base : Heap} {CX : CXT}
theorem FnG.mono {j k : Nat} {f : Addr} {fd : FuncData} {ps : List Str} {sp : Sp} (F : FnG P w K mg base CX j f fd ps sp) (h : j ≤ k) : FnG P w K mg base CX k f fd ps sp :=
  ⟨F.len, fun A o s H as us vs Q E hg hr => F.run A o s H as us vs Q E hg (hr.mono h)⟩
theorem fn_ofG {k : Nat} {f : Addr} {nm qual : Str} {pms : Arguments} {body : List Stmt} {sc : Scope} {dV kV doc pm cdv ct oc : Value} {an od : Option Addr} {osl : Array (Option Value)} {N ps : List Str} {sp : Sp}
    (lk : K.lookup f = some ⟨oc, od, .func (PySem.W.fnOf nm qual pms body sc dV kV doc pm an cdv ct), osl⟩) (hcd : PySem.W.codeIn K cdv qual = true) (S : FnScope N ps sc) (len : ∀ vs H Q E, sp vs H Q E → vs.length = ps.length)
    (hb : ∀ (A : Around) (outer : List Env) (s : Shared) (H : Hp) (vs : List V) (Q : VK) (E : XK), A.guards = some [] → Room k (A.deeper (envOfC qual sc s.heap.objs.size f cdv)) → sp vs H Q E →
      ∃ t, PSs (cxOf CX P w K mg base N qual sc f cdv A outer s H E) body t ∧ t { nx := fun _ H' => Q .non H', rt := Q } (start N vs) H) :
    FnG P w K mg base CX (k + 1) f (PySem.W.fnOf nm qual pms body sc dV kV doc pm an cdv ct) ps sp := by
  refine ⟨len, fun A outer s H args us vs Q E hgd hr z0 hbt rv hp => ?_⟩
  have lenv := len _ _ _ _ hp
  have KX : K.In s.heap := z0.mod.kin.keeps fun b o q => (z0.bs b o q).1
  have noL : s.heap.NoLimit := z0.mod.nolimit.keeps fun b o q => (z0.bs b o q).1
  refine codeAny_call_function hr.depth (KX _ _ lk) rfl S.co S.gen rfl (PySem.W.codeRec_of KX hcd) (hbt _ _ _ _ ?_)
  refine wpAny_newFunctionEnv_cells S.kind (fun ⟨y, v⟩ hy => (S.par y (List.of_mem_zip hy).1).elim .inl fun q => .inr ⟨q, PySem.W.cellsFrom_some _ _ _ (.inl q)⟩) fun env he s1 x => ?_
  subst he
  refine ⟨noL.keeps x.toInCall.keep, codeAny_func ?_⟩
  obtain ⟨t, ht, hq⟩ := hb A outer s H vs Q E hgd (hr.deeper _) hp
  have I0 : Inv (cxOf CX P w K mg base N qual sc f cdv A outer s H E) [] (start N vs) H s1 := inv_start S hr.hd z0 lenv rv x
  refine wpAny_mono (ht.run [] s1 _ H _ I0 hq) (fun fl s2 q2 => ?_) fun _ _ q2 => q2
  cases fl with
  | ret u =>
    obtain ⟨v, _, H2, J, r2, q3⟩ := q2
    exact ⟨v, H2, J.os, J.bare, J.base, J.hok, r2, q3⟩
  | next =>
    obtain ⟨_, H2, J, q3⟩ := q2
    exact ⟨V.non, H2, J.os, J.bare, J.base, J.hok, rfl, q3⟩
  | brk =>
    obtain ⟨_, _, _, q3⟩ := q2
    exact q3.elim
  | cont =>
    obtain ⟨_, _, _, q3⟩ := q2
    exact q3.elim
theorem okG {x qual : Str} {st : Stmt} {f : Addr} {fd : FuncData} {N ps : List Str} {k : Nat} {sp : Sp} (F : Fun K x qual st f fd) (S : FnScope N ps (defScope st)) (len : ∀ vs H Q E, sp vs H Q E → vs.length = ps.length)
    (hb : ∀ (cdv : Value) (A : Around) (outer : List Env) (s : Shared) (H : Hp) (vs : List V) (Q : VK) (E : XK), A.guards = some [] → Room k (A.deeper (envOfC qual (defScope st) s.heap.objs.size f cdv)) → sp vs H Q E →
      ∃ t, PSs (cxOf CX0 P w K mg base N qual (defScope st) f cdv A outer s H E).nox (defBody st) t ∧ t { nx := fun _ H' => Q .non H', rt := Q } (start N vs) H) : FnG P w K mg base CX0 (k + 1) f fd ps sp := by
  obtain ⟨oc, od, kV, doc, pm, an, cdv, ct, osl, rfl, lk, hcd⟩ := F.ex
  exact fn_ofG lk hcd S len fun A outer s H vs Q E hg hr hp => let ⟨t, h, q⟩ := hb cdv A outer s H vs Q E hg hr hp; ⟨t, h.nox, q⟩
end
section
variable {X : Cx} {CX : CXT} {k : Nat} {f : Addr} {fd : FuncData} {ps : List Str} {sp : Sp} {E : XK} {x : Str} {p pos : Pos} {e : Expr} {es : List Expr} {t : TA}
theorem pe_callG (F : FnG X.prog X.w X.K X.mg X.base CX k f fd ps sp) (hgd : X.A.guards = some []) (hr : Room k X.A) (hg : Gl X x) (hm : X.mg x = some (.ref f)) (hk : PySem.W.keepIn X.K (.ref f) = true) (hb : Binds X.K fd ps []) (hx : Passes CX X E)
    (ha : PA X (e :: es) t) (hdb : (x == ("__debug__" : Str)) = false := by decide) (he : starEach (e :: es) X.env = (false, eval e X.env) :: starEach es X.env := by rfl) (hpl : (backTo pos (starEach es X.env)).any (·.1) = false := by rfl) :
    PE X (.Call (.Name x p) (e :: es) [] pos) (tCall sp [] E t) := by
  refine ⟨fun pins s σ H Q I h => wpAny_Call_Name_kw (ld_glob I hg hm ?_ hdb)⟩
  refine PySem.W.callWith_K (h₀ := X.base) I.ok.mod.kin hk (thn (ha.run pos pins s σ H _ I h) fun us s1 ⟨vs, H1, I1, r, q⟩ => ⟨I1.kIn, ?_⟩) he hpl
  have q' : sp vs H1 Q E := by
    have z : sp (vs ++ []) H1 Q E := q
    rw [List.append_nil] at z
    exact z
  have hl : us.length = ps.length := r.length.symm.trans (F.len _ _ _ _ q')
  have bt := hb s1 us I1.kIn (by rw [List.append_nil]; exact hl)
  rw [List.append_nil] at bt
  refine wpAny_call (codeAny_mono (F.run X.A X.stack s1 H1 ⟨us, []⟩ us vs Q E hgd hr I1.env0 bt r q') fun z s2 hq => ?_)
  cases z with
  | error er => exact hx pins σ H1 s1 er s2 I1 hq
  | ok fl =>
    cases fl with
    | ret u => exact I1.after hq
    | _ => exact hq.elim
end
/-! ## repr of data: None, bools, ints, texts, lists, tuples, dicts with int and text keys -/
def keyD : Key → PyData
  | .inl i => .int i
  | .inr z => .str z
mutual
inductive Dr (K : PySem.W.Frag) (H : Hp) : V → PyData → Prop
  | non : Dr K H .non .none
  | bl (b : Bool) : Dr K H (.bl b) (.bool b)
  | int (i : Int) : Dr K H (.int i) (.int i)
  | str (x : Str) : Dr K H (.str x) (.str x)
  | lst {a : Addr} {xs : List V} {ds : List PyData} : a ≠ sysModules → SqL K H a xs → DrAll K H xs ds → Dr K H (.ref a) (.list ds)
  | tup {a : Addr} {xs : List V} {ds : List PyData} : SqT K H a xs → DrAll K H xs ds → Dr K H (.ref a) (.tuple ds)
  | dct {a : Addr} {kvs : List (Key × V)} {ds : List PyData} : H a = some (.dK kvs) → DrAll K H (kvs.map (·.2)) ds → Dr K H (.ref a) (.dict ((kvs.map fun q => keyD q.1).zip ds))
inductive DrAll (K : PySem.W.Frag) (H : Hp) : List V → List PyData → Prop
  | nil : DrAll K H [] []
  | cons {v : V} {vs : List V} {d : PyData} {ds : List PyData} : Dr K H v d → DrAll K H vs ds → DrAll K H (v :: vs) (d :: ds)
end
section
variable {X : Cx} {pins : List (Addr × Obj)} {σ : L2.St} {H : Hp} {s : Shared}
theorem DrAll.length {K : PySem.W.Frag} : ∀ {vs : List V} {ds : List PyData}, DrAll K H vs ds → vs.length = ds.length
  | _, _, .nil => rfl
  | _, _, .cons _ t => congrArg Nat.succ (DrAll.length t)
theorem key_reads {h : Heap} : ∀ {k : Key} {u : Value}, keyIs k u = true → Reads h u (keyD k) []
  | .inl i, u, e => by
    obtain ⟨t, rfl⟩ := Value.isInt_shape (k := i) (v := u) e
    exact .int i t
  | .inr x, u, e => by
    obtain ⟨t, rfl⟩ := Value.isStrOf_shape (x := x) (v := u) e
    exact .str x t
theorem pairs_reads {P : Program} {w : World} {h : Heap} : ∀ {kvs : List (Key × V)} {vs : List (Key × Value)} {es : List DictEntry}, KV kvs vs → Pairs (mixKind P w) es vs →
    ReadsAll h (es.map (·.key)) (kvs.map fun q => keyD q.1) [] ∧ Vals (kvs.map (·.2)) (es.map (·.val)) := by
  intro kvs
  induction kvs with
  | nil =>
    intro vs es r p
    cases r
    cases p
    exact ⟨.nil, .nil⟩
  | cons kv r ih =>
    intro vs es q p
    cases q with
    | cons h1 t =>
      cases p with
      | cons hk hv t2 =>
        obtain ⟨q1, q2⟩ := ih t t2
        refine ⟨ReadsAll.cons (as := []) (bs := []) (key_reads (by rw [h1.1]; exact hk)) q1, .cons ?_ q2⟩
        have z := h1.2
        rw [← hv] at z
        exact z
theorem zip_fst {α β : Type} : ∀ (l : List α) (r : List β), l.length = r.length → (l.zip r).map (·.1) = l ∧ (l.zip r).map (·.2) = r
  | [], [], _ => ⟨rfl, rfl⟩
  | a :: l, b :: r, h => by
    obtain ⟨h1, h2⟩ := zip_fst l r (Nat.succ.inj h)
    exact ⟨by rw [List.zip_cons_cons, List.map_cons, h1], by rw [List.zip_cons_cons, List.map_cons, h2]⟩
  | [], _ :: _, h => nomatch h
  | _ :: _, [], h => nomatch h
mutual
theorem Dr.reads (I : Inv X pins σ H s) : ∀ {v : V} {d : PyData} {u : Value}, Dr X.K H v d → RelV v u → ∃ as, Reads s.heap u d as ∧ sysModules ∉ as
  | _, _, _, .non, r => by
    cases r
    exact ⟨_, .none, fun z => nomatch z⟩
  | _, _, _, .bl b, r => by
    cases r
    exact ⟨_, .bool b, fun z => nomatch z⟩
  | _, _, _, .int i, r => by
    obtain ⟨t, rfl⟩ := r
    exact ⟨_, .int i t, fun z => nomatch z⟩
  | _, _, _, .str x, r => by
    obtain ⟨t, rfl⟩ := r
    exact ⟨_, .str x t, fun z => nomatch z⟩
  | _, _, _, .lst (a := a) ns hs ha, r => by
    cases r
    obtain ⟨its, rv, ⟨o, n, ho, hc, _, hd⟩, _⟩ := I.list hs
    obtain ⟨as, hr, hn⟩ := DrAll.reads I ha rv
    exact ⟨_, Reads.list ho hc hd hr, fun z => (List.mem_cons.mp z).elim (fun e => ns e.symm) hn⟩
  | _, _, _, .tup hs ha, r => by
    cases r
    obtain ⟨its, rv, ⟨o, ho, hc, n, hd⟩, _⟩ := I.tuple hs
    obtain ⟨as, hr, hn⟩ := DrAll.reads I ha rv
    exact ⟨_, Reads.tuple ho hc hd hr, hn⟩
  | _, _, _, .dct (a := a) (kvs := kvs) (ds := ds) e ha, r => by
    cases r
    obtain ⟨_, ny, vs, kv, o, es, ep, ho, hx, hd, _, hp, _⟩ := I.hok a _ e
    obtain ⟨q1, q2⟩ := pairs_reads (h := s.heap) kv hp
    obtain ⟨bs, hr, hn⟩ := DrAll.reads I ha q2
    have hl : (kvs.map fun q => keyD q.1).length = ds.length := by rw [List.length_map, ← ha.length, List.length_map]
    obtain ⟨z1, z2⟩ := zip_fst (kvs.map fun q => keyD q.1) ds hl
    refine ⟨_, Reads.dict (as := []) (bs := bs) ho hx.1 hd (by rw [z1]; exact q1) (by rw [z2]; exact hr), fun z => ?_⟩
    rcases List.mem_append.mp z with z | z
    · have e2 : sysModules = a := by simpa using z
      rw [← e2] at ny
      exact absurd ny (by decide)
    · exact hn z
theorem DrAll.reads (I : Inv X pins σ H s) : ∀ {vs : List V} {ds : List PyData} {us : List Value}, DrAll X.K H vs ds → Vals vs us → ∃ as, ReadsAll s.heap us ds as ∧ sysModules ∉ as
  | _, _, _, .nil, r => by
    cases r
    exact ⟨_, .nil, fun z => nomatch z⟩
  | _, _, _, .cons h1 h2, r => by
    cases r with
    | cons r1 r2 =>
      obtain ⟨as, q1, n1⟩ := Dr.reads I h1 r1
      obtain ⟨bs, q2, n2⟩ := DrAll.reads I h2 r2
      exact ⟨_, .cons q1 q2, fun z => (List.mem_append.mp z).elim n1 n2⟩
end
mutual
theorem Dr.same {K : PySem.W.Frag} {H H' : Hp} (e : Same H H') (et : ∀ a xs, SqT K H a xs → SqT K H' a xs) : ∀ {v : V} {d : PyData}, Dr K H v d → Dr K H' v d
  | _, _, .non => .non
  | _, _, .bl b => .bl b
  | _, _, .int i => .int i
  | _, _, .str x => .str x
  | _, _, .lst ns hs ha => .lst ns (e.seq hs) (DrAll.same e et ha)
  | _, _, .tup hs ha => .tup (et _ _ hs) (DrAll.same e et ha)
  | _, _, .dct h ha => .dct (e _ _ h) (DrAll.same e et ha)
theorem DrAll.same {K : PySem.W.Frag} {H H' : Hp} (e : Same H H') (et : ∀ a xs, SqT K H a xs → SqT K H' a xs) : ∀ {vs : List V} {ds : List PyData}, DrAll K H vs ds → DrAll K H' vs ds
  | _, _, .nil => .nil
  | _, _, .cons h t => .cons (Dr.same e et h) (DrAll.same e et t)
end
theorem same_seqT {K : PySem.W.Frag} {H H' : Hp} {a : Addr} {xs : List V} (e : Same H H') (h : SqT K H a xs) : SqT K H' a xs := by
  rcases h with (h | ⟨o, h⟩) | h
  · exact .inl (.inl (e _ _ h))
  · exact .inl (.inr ⟨o, e _ _ h⟩)
  · exact .inr h
theorem Dr.keep {K : PySem.W.Frag} {H H' : Hp} {v : V} {d : PyData} (h : Dr K H v d) (e : Same H H') : Dr K H' v d := h.same e fun _ _ => same_seqT e
theorem DrAll.keep {K : PySem.W.Frag} {H H' : Hp} {v : List V} {d : List PyData} (h : DrAll K H v d) (e : Same H H') : DrAll K H' v d := h.same e fun _ _ => same_seqT e
end
/-- a list's, a tuple's, a dict's repr -/
def rRepr (K : PySem.W.Frag) : List V → Hp → VK → Prop := fun xs H Q => ∃ (a : Addr) (d : PyData), xs = [.ref a] ∧ Dr K H (.ref a) d ∧ d.showable = true ∧ d.depth ≤ 60 ∧ d.shown.length ≤ sizeLine ∧ Q (.str d.shown) H
theorem call_repr {X : Cx} {k : Nat} (hg : X.A.guards = some []) (hr : Room k X.A) : CallR X (.builtin "repr") (rRepr X.K) := by
  intro pins s σ H xs us Q I r h
  obtain ⟨a, d, rfl, hd, hs, hdp, hz, q⟩ := h
  obtain ⟨u, rfl, ru⟩ := vals1 r
  obtain ⟨as, rd, nm⟩ := hd.reads I ru
  cases ru
  refine repr_of_reads' rd hs (fun _ => nm) hg ?_ (fun _ _ e => e) (fun h' u tk hk => ?_) hz
  · have := hr.units
    omega
  · exact ⟨.str d.shown, H, I.kept hk, ⟨u, rfl⟩, q⟩
/-- a list display, its place no table of the machine's -/
def tLstN (t : TA) : TE := fun σ H Q => t σ H fun xs H1 => xs.length ≤ sizeLine ∧ ∀ p, H1 p = none → p ≠ sysModules → Q (.ref p) (upd H1 p (.lst xs))
theorem pe_lstN {X : Cx} {es : List Expr} {t : TA} {pos : Pos} (h : PA X es t) : PE X (.List es pos) (tLstN t) := by
  refine ⟨fun pins s σ H Q I q0 => wpAny_List_spliced (thn (h.run pos pins s σ H _ I q0) fun us s1 ⟨xs, H1, I1, r, z, q⟩ => ⟨r.length ▸ z, ?_⟩)⟩
  have hf : H1 s1.heap.objs.size = none := I1.fresh
  have hn : s1.heap.objs.size ≠ sysModules := Nat.ne_of_gt I1.big
  exact ⟨.ref s1.heap.objs.size, _, I1.laid (t' := s1.toks) (o := .lst xs) (fun b u e => Heap.get?_push_of_some _ e) (Nat.le_refl _) ⟨z, us, 0, r, Heap.get?_push_size _ rfl⟩, rfl, q _ hf hn⟩
end Vk
set_option Elab.async false
set_option linter.all false
set_option maxRecDepth 100000
set_option maxHeartbeats 4000000
namespace PySem
namespace Vx
open PySem.W PySem.Calls PyProof.Rows PySem.HandSPX Builtin Builtin.ObjectAttr
abbrev exB : List Value := [.type "Exception", .type "BaseException", .type "object"]
/-! ### the text of such an __init__: self.p = p -/
def iA (p : Str) (p1 p2 : Pos) : Arguments := { posonlyargs := [], args := [{ arg := "self", annotation := none, pos := p1 }, { arg := p, annotation := none, pos := p2 }], vararg := none, kwonlyargs := [], kw_defaults := [], kwarg := none, defaults := [] }
def iB (p : Str) (q1 q2 q3 q4 : Pos) : List Stmt := [.Assign [.Attribute (.Name "self" q1) p q2] (.Name p q3) q4]
def iS (p : Str) : Scope := { kind := .function, names := [(PySem.Str.ofString "self", .local), (p, .local)], isGenerator := false, isCoroutine := false, more := [] }
/-- what the written part says of an own error class at C (no own metaclass, base Exception in the end), as one look -/
def ecB (K : Frag) (C : Addr) : Bool := excInitIn K C exB "Exception.__new__" && (excOver K C exB && (hasDictIn K C && (decide (findIn K (.ref C) "__setattr__" = some (some (.builtin "object.__setattr__"))) &&
  (decide (findIn K (.ref C) "__getattribute__" = some (some (.builtin "BaseException.__getattribute__"))) && (decide (findIn K (.ref C) "__getattr__" = some none) && (decide (findIn K (.ref C) "__class__" = some (some (.builtin "object.__class__"))) &&
  (keepIn K (.ref C) && (decide (subIn K (.ref C) (.type "BaseException") = some true) && (decide (typeIn K (.ref C) = some (.type "type")) && (decide (mroIn K C (.type "object") = some true) &&
  (decide (specialIn K (.builtin "object.__class__") "__get__" = some (some (.builtin "getset_descriptor.__get__"))) && decide (takesIn K (.builtin "object.__class__") = some true))))))))))))
structure EcK (K : Frag) (C : Addr) : Prop where
  mke : excInitIn K C exB "Exception.__new__" = true
  ov : excOver K C exB = true
  hd : hasDictIn K C = true
  sa : findIn K (.ref C) "__setattr__" = some (some (.builtin "object.__setattr__"))
  ga : findIn K (.ref C) "__getattribute__" = some (some (.builtin "BaseException.__getattribute__"))
  gg : findIn K (.ref C) "__getattr__" = some none
  cl : findIn K (.ref C) "__class__" = some (some (.builtin "object.__class__"))
  kp : keepIn K (.ref C) = true
  ex : subIn K (.ref C) (.type "BaseException") = some true
  ty : typeIn K (.ref C) = some (.type "type")
  ob : mroIn K C (.type "object") = some true
  gt : specialIn K (.builtin "object.__class__") "__get__" = some (some (.builtin "getset_descriptor.__get__"))
  tk : takesIn K (.builtin "object.__class__") = some true
theorem ecK_of {K : Frag} {C : Addr} (h : ecB K C = true) : EcK K C := by
  unfold ecB at h
  simp only [Bool.and_eq_true, decide_eq_true_eq] at h
  obtain ⟨h1, h2, h3, h4, h5, h6, h7, h8, h9, h10, h11, h12, h13⟩ := h
  exact ⟨h1, h2, h3, h4, h5, h6, h7, h8, h9, h10, h11, h12, h13⟩
/-- its own __init__ at fI, one parameter p, kept under that name -/
structure EcI (K : Frag) (C fI : Addr) (p : Str) : Prop where
  noN : findIn K (.ref C) p = some none
  iC : findIn K (.ref C) "__init__" = some (some (.ref fI))
  tI : typeIn K (.ref fI) = some (.type "function")
  ns : (p == ("self" : Str)) = false
  nd : (p == ("__debug__" : Str)) = false
  fn : ∃ (q : Str) (oc : Value) (od : Option Addr) (doc pm : Value) (an : Option Addr) (cdv ct : Value) (osl : Array (Option Value)) (p1 p2 q1 q2 q3 q4 : Pos),
    K.lookup fI = some ⟨oc, od, .func (fnOf "__init__" q (iA p p1 p2) (iB p q1 q2 q3 q4) (iS p) .none .none doc pm an cdv ct), osl⟩ ∧ codeIn K cdv q = true
  b1 : ∀ (q : Str) (doc pm : Value) (an : Option Addr) (cdv ct : Value) (p1 p2 q1 q2 q3 q4 : Pos) (x v : Value), bindArgs (fnOf "__init__" q (iA p p1 p2) (iB p q1 q2 q3 q4) (iS p) .none .none doc pm an cdv ct) ⟨[x, v], []⟩ = pure ([("self", x), (p, v)] : List (Str × Value))
  b2 : ∀ (q : Str) (doc pm : Value) (an : Option Addr) (cdv ct : Value) (p1 p2 q1 q2 q3 q4 : Pos) (x v : Value), bindArgs (fnOf "__init__" q (iA p p1 p2) (iB p q1 q2 q3 q4) (iS p) .none .none doc pm an cdv ct) ⟨[x], [(p, v)]⟩ = pure ([("self", x), (p, v)] : List (Str × Value))
/-- what __init__ leaves of a fresh exception at x -/
structure InitEnd (h h' : Heap) (x C dx t1 : Addr) (p : Str) (v : Value) : Prop where
  keep : ∀ b o, b ≠ x → h.get? b = some o → h'.get? b = some o
  obj : h'.get? x = some { cls := .ref C, dict := some dx, data := .fields #[.ref t1, .none, .none, .none, .bool false, .none] }
  dbig : h.objs.size ≤ dx
  dne : dx ≠ x
  ns : h'.Ns1 dx (fun y => if y = p then some v else none)
/-- a made one -/
structure Made (h h' : Heap) (e C d : Addr) (p : Str) (v : Value) : Prop where
  keep : ∀ b o, h.get? b = some o → h'.get? b = some o
  new : h.objs.size ≤ e
  obj : ∃ t1 : Addr, h'.get? e = some { cls := .ref C, dict := some d, data := .fields #[.ref t1, .none, .none, .none, .bool false, .none] }
  dbig : h.objs.size ≤ d
  dne : d ≠ e
  ns : h'.Ns1 d (fun y => if y = p then some v else none)
section
variable {prog : Program} {w : World} {A : Around} {E : Value → Shared → Prop} {R : Result → Shared → Prop} {s : Shared} {K : Frag} {C fI : Addr} {p : Str}
theorem store0 {hp : Heap} {g : Array GenState} {d : Drawn} {t : Nat} {os : OsState} {tk : Tok} {v : Value} {x t0 : Addr} (T : EcK K C) (X : K.In hp) (no : findIn K (.ref C) p = some none) (hx : hp.get? x = some (excO C t0))
    (go : ∀ h' tk' dx, (∀ b o, b ≠ x → hp.get? b = some o → h'.get? b = some o) → hp.objs.size ≤ dx → dx ≠ x → h'.get? x = some { cls := .ref C, dict := some dx, data := .fields #[.ref t0, .none, .none, .none, .bool false, .none] } →
      h'.Ns1 dx (fun y => if y = p then some v else none) → R (.ok (.ret .none)) ⟨h', g, d, tk', os⟩) :
    codeAny (model prog w) A (.call (.builtin "object.__setattr__") ⟨[.ref x, .str p tk, v], []⟩) R ⟨hp, g, d, t, os⟩ := by
  refine osa_openX (s := ⟨hp, g, d, t, os⟩) (od := none) (r := none) F.store_Exception X ⟨hx, rfl, rfl, trivial⟩ T.ov (by unfold takerIn; rw [no] <;> rfl) fun b => ?_
  obtain ⟨cd, hc, hdd⟩ := any_some T.hd
  have hne : x ≠ hp.objs.size := Nat.ne_of_lt (Heap.lt_size hx)
  refine wpAny_bind (wpAny_pure (wpAny_bind (instanceDict_exc hx (looks_clsIn X hc) hdd ?_)))
  show wpAny _ _ (storeInDict hp.objs.size (.str p tk) p v) _ _ _
  refine store_in_new ⟨_, #[], _, (Heap.get?_update_ne _ _ _ _ hne.symm).trans (Heap.get?_push_at rfl rfl), rfl, fun e he => absurd he (by simp), fun _ => rfl⟩ fun h' tk' hn hs => ?_
  have hx1 : (hp.push (dictOf [] 0)).get? x = some (excO C t0) := Heap.get?_push_of_some _ hx
  refine go h' tk' hp.objs.size (fun b o hb ho => ?_) (Nat.le_refl _) hne.symm ?_ hn
  · exact (hs.2 b (Nat.ne_of_lt (Heap.lt_size ho))).trans ((Heap.get?_update_ne _ _ _ _ hb).trans (Heap.get?_push_of_some _ ho))
  · exact (hs.2 x hne).trans (Heap.get?_update_self _ hx1 rfl)
theorem lkP (ns : (p == ("self" : Str)) = false) : (iS p).names.lookup p = some .local := by
  show List.lookup p [(PySem.Str.ofString "self", NameKind.local), (p, NameKind.local)] = some .local
  rw [List.lookup_cons, ns, List.lookup_cons, beq_self_eq_true]
theorem initE (T : EcK K C) (U : EcI K C fI p) {x t0 : Addr} {v : Value} {args : Args} (X : K.In s.heap) (hlim : s.heap.NoLimit) (hx : s.heap.get? x = some (excO C t0)) (room : A.depth < recursionLimit)
    (ha : args = ⟨[.ref x, v], []⟩ ∨ args = ⟨[.ref x], [(p, v)]⟩) (go : ∀ h' tk dx, InitEnd s.heap h' x C dx t0 p v → R (.ok (.ret .none)) { s with heap := h', toks := tk }) :
    codeAny (model prog w) A (.call (.ref fI) args) R s := by
  obtain ⟨q, oc, od, doc, pm, an, cdv, ct, osl, p1, p2, q1, q2, q3, q4, ho, hcd⟩ := U.fn
  have hbd : BindsTo s (fnOf "__init__" q (iA p p1 p2) (iB p q1 q2 q3 q4) (iS p) .none .none doc pm an cdv ct) args ([("self", .ref x), (p, v)] : List (Str × Value)) := by
    rcases ha with rfl | rfl
    · exact .of_eq (U.b1 _ _ _ _ _ _ _ _ _ _ _ _ _ _)
    · exact .of_eq (U.b2 _ _ _ _ _ _ _ _ _ _ _ _ _ _)
  refine Att.call_fn (binds := ([("self", .ref x), (p, v)] : List (Str × Value))) X hlim ho hcd room hbd ?_ (fun s₁ IC => ?_) rfl rfl rfl
  · have z1 : ((iS p).names.lookup ("self" : Str) == some NameKind.local || (iS p).names.lookup ("self" : Str) == some NameKind.cell) = true := by rfl
    have z2 : ((iS p).names.lookup p == some NameKind.local || (iS p).names.lookup p == some NameKind.cell) = true := by rw [lkP U.ns] <;> rfl
    simp only [List.all_cons, List.all_nil, z1, z2, Bool.and_self]
  obtain ⟨h₁, tk₁, rfl⟩ := IC.toInCall.same
  have kp : ∀ b o, s.heap.get? b = some o → h₁.get? b = some o := IC.toInCall.keep
  have hn := IC.toInCall.ns
  have X1 : K.In h₁ := X.keeps kp
  have hx1 := kp _ _ hx
  have kl : (envOfC q (iS p) s.heap.objs.size fI cdv).kindOf p = some .local := lkP U.ns
  have ks : (envOfC q (iS p) s.heap.objs.size fI cdv).kindOf "self" = some .local := by rfl
  have nd2 : ([("self" : Str), p]).Nodup := by
    have z : ¬ (("self" : Str) = p) := fun e => by
      have y := U.ns
      rw [← e] at y
      simp at y
    simp [z]
  have vp := L2.bindL_get (P := [("self" : Str), p]) (vs := [Value.ref x, v]) (i := 1) (m := fun _ => none) nd2 rfl rfl kl
  have vsf := L2.bindL_get (P := [("self" : Str), p]) (vs := [Value.ref x, v]) (i := 0) (m := fun _ => none) nd2 rfl rfl ks
  show wpAny _ _ (execs _ _) _ _ _
  refine wpAny_execs_cons (plainObj_wpAny_Assign_Attribute ?_)
  refine wpAny_Name (wpAny_loadName_local rfl kl hn vp ?_) U.nd
  refine wpAny_Name (wpAny_loadName_local rfl ks hn vsf ?_) (by decide)
  refine set_plain X1 (ox := excO C t0) (od := none) ⟨hx1, rfl, rfl, trivial⟩ T.sa ?_
  refine store0 T X1 U.noN hx1 (fun h₃ tk₃ dx k₃ dn dne hx₃ hn₃ => ?_)
  show wpAny _ _ (execs _ _) _ _ _
  have z : s.heap.objs.size < h₁.objs.size := hn.lt
  exact wpAny_execs_nil (go h₃ tk₃ dx ⟨fun b o hb e => k₃ b o hb (kp b o e), hx₃, Nat.le_of_lt (Nat.lt_of_lt_of_le z dn), dne, hn₃⟩)
theorem one_sz (v : Value) : [v].length ≤ sizeLine := by
  rw [sizeLine_eq]
  exact (by decide : 1 ≤ 16777216)
/-- C(v), C(p = v) -/
theorem madeE (T : EcK K C) (U : EcI K C fI p) {v : Value} {args : Args} (X : K.In s.heap) (hlim : s.heap.NoLimit) (room : A.depth + 1 < recursionLimit) (ha : args = ⟨[v], []⟩ ∨ args = ⟨[], [(p, v)]⟩)
    (go : ∀ h' tk e d, Made s.heap h' e C d p v → R (.ok (.ret (.ref e))) { s with heap := h', toks := tk }) : codeAny (model prog w) A (.call (.ref C) args) R s := by
  obtain ⟨nm, N, qn, bs, bm, hdct, sn, sub, ab, col, dd, k0, k1, k2, k3, k5, hC, tl⟩ := excInit_of X T.mke
  obtain ⟨hp, g, dr, tk, os⟩ := s
  have main : ∀ (rest : List Value) (kw : List (Str × Value)), rest.length ≤ sizeLine → (∀ x : Addr, (⟨.ref x :: rest, kw⟩ : Args) = ⟨[.ref x, v], []⟩ ∨ (⟨.ref x :: rest, kw⟩ : Args) = ⟨[.ref x], [(p, v)]⟩) → codeAny (model prog w) A (.call (.ref C) ⟨rest, kw⟩) R ⟨hp, g, dr, tk, os⟩ := by
    intro rest kw hr hk
    have kp : ∀ b o, hp.get? b = some o → ((hp.push (kdv_tup rest)).push (excO C hp.objs.size)).get? b = some o := fun b o e => Heap.get?_push_of_some _ (Heap.get?_push_of_some _ e)
    have hget : ((hp.push (kdv_tup rest)).push (excO C hp.objs.size)).get? (hp.objs.size + 1) = some (excO C hp.objs.size) := by heap_get
    refine callE F.excBase_Exception tl hC (looks_findIn X U.iC) (fun self => bind_fn X self U.tI) hr ?_
    refine initE (s := ⟨(hp.push (kdv_tup rest)).push (excO C hp.objs.size), g, dr, tk, os⟩) T U (X.keeps kp) (hlim.keeps kp) hget ?_ (hk _) fun h' tk' dx ⟨k', hx, dn, dne, hns⟩ => ?_
    · show (A.under _).depth < _
      exact Nat.lt_of_le_of_lt (Nat.le_of_eq L2.make_depth) room
    · have old : ∀ b o, hp.get? b = some o → h'.get? b = some o := fun b o e => k' b o (Nat.ne_of_lt (Nat.lt_succ_of_lt (Heap.lt_size e))) (kp b o e)
      have z : hp.objs.size + 1 + 1 ≤ dx := by
        have q := dn
        rw [Heap.size_push, Heap.size_push] at q
        exact q
      exact ⟨rfl, go h' tk' (hp.objs.size + 1) dx ⟨old, Nat.le_succ _, ⟨_, hx⟩, Nat.le_trans (Nat.le_trans (Nat.le_succ _) (Nat.le_succ _)) z, dne, hns⟩⟩
  rcases ha with rfl | rfl
  · exact main _ _ (one_sz v) fun x => .inl rfl
  · exact main _ _ (Nat.zero_le _) fun x => .inr rfl
end
end Vx
end PySem
set_option Elab.async false
set_option linter.all false
set_option maxRecDepth 100000
set_option maxHeartbeats 4000000
namespace Vk
open PySem PySem.Spec PyProof.Rows L2 PySem.Vx
/-- an exception of the class cls stands at a, its own dict d -/
def ExV (cls : Value) (d : Option Addr) (a : Addr) : HO := .ext fun h => ∃ (oe : Obj) (vs : Array Value), h.get? a = some oe ∧ Zc cls d oe ∧ oe.data = .fields vs
theorem exV_ok {P : Program} {w : World} {H : Hp} {h : Heap} {a : Addr} {cls : Value} {d : Option Addr} {oe : Obj} {vs : Array Value} (e : h.get? a = some oe) (z : Zc cls d oe) (q : oe.data = .fields vs) : ObjOk P w H h a (ExV cls d a) :=
  ⟨⟨oe, vs, e, z, q⟩, ⟨oe, e⟩, fun _ _ ⟨o, v, q, r⟩ k => ⟨o, v, k o q, r⟩⟩
theorem exV_at {P : Program} {w : World} {H : Hp} {h : Heap} {a : Addr} {cls : Value} {d : Option Addr} (k : HOk P w H h) (e : H a = some (ExV cls d a)) : ∃ (oe : Obj) (vs : Array Value), h.get? a = some oe ∧ Zc cls d oe ∧ oe.data = .fields vs := (k a _ e).1
theorem relO_one {p : Str} {v : V} {u : Value} (r : L2.RelV v u) (f : Str) : RelO (List.lookup f [(p, v)]) (if f = p then some u else none) := by
  by_cases h : f = p
  · rw [h, if_pos rfl, List.lookup_cons, beq_self_eq_true]
    exact r
  · have e : (f == p) = false := by simpa using h
    rw [if_neg h, List.lookup_cons, e]
    trivial
section
variable {X : Cx} {pins : List (Addr × Obj)} {σ : L2.St} {H : Hp} {s : Shared} {C fI : Addr} {p x : Str}
/-- two new objects: the exception, its dict -/
theorem Inv.made2 {h' : Heap} {e d : Addr} {v : V} {u : Value} {tk : Nat} (I : Inv X pins σ H s) (M : Made s.heap h' e C d p u) (r : L2.RelV v u) :
    H e = none ∧ H d = none ∧ d ≠ e ∧ Inv X pins σ (upd (upd H d (.xd [(p, v)])) e (ExV (.ref C) (some d) e)) { s with heap := h', toks := tk } := by
  have ne := I.hok.fresh M.new
  have nd := I.hok.fresh M.dbig
  obtain ⟨t1, ho⟩ := M.obj
  refine ⟨ne, nd, M.dne, ?_⟩
  have un0 : ∀ b o, s.heap.get? b = some o → b ≠ e ∧ b ≠ d := fun b o q => ⟨Nat.ne_of_lt (Nat.lt_of_lt_of_le (Heap.lt_size q) M.new), Nat.ne_of_lt (Nat.lt_of_lt_of_le (Heap.lt_size q) M.dbig)⟩
  have tr : ∀ b o, H b = some o → (upd (upd H d (.xd [(p, v)])) e (ExV (.ref C) (some d) e)) b = some o := fun b o q => by rw [upd_ne (ne_of_none q ne), upd_ne (ne_of_none q nd)]; exact q
  have U : Un X.fs [] H (upd (upd H d (.xd [(p, v)])) e (ExV (.ref C) (some d) e)) s.heap h' := {
    keep := fun b o q _ _ _ => M.keep b o q
    slot := fun b o q _ _ _ => ⟨o.slots, M.keep b o q⟩
    free := fun b o q n _ => by rw [upd_ne (un0 b o q).1, upd_ne (un0 b o q).2]; exact n
    there := fun b o q _ => ⟨o, M.keep b o q⟩
    tups := fun b xs q => tr b _ q
    frzs := fun b o xs q => tr b _ q
    tbls := fun b ps q => ⟨#[], by rw [tr b _ q]; simp⟩ }
  refine I.un (t' := tk) U fun b o q => ?_
  by_cases hb : b = e
  · subst hb
    rw [upd_same] at q
    cases q
    exact exV_ok ho ⟨rfl, rfl⟩ rfl
  · rw [upd_ne hb] at q
    by_cases hd : b = d
    · subst hd
      rw [upd_same] at q
      cases q
      exact ⟨_, M.ns, fun f => relO_one r f⟩
    · rw [upd_ne hd] at q
      exact (I.hok b o q).stay (fun c y _ z => M.keep c y z) (fun c z => tr c _ z) fun c xs z => tr c _ z
theorem run_mkE (T : EcK X.K C) (U : EcI X.K C fI p) {k : Nat} (hr : Room k X.A) (I : Inv X pins σ H s) {v : V} {u : Value} (r : L2.RelV v u) {Q : VK} {us : List Value} {kw : List (Str × Value)} (ha : (⟨us, kw⟩ : Args) = ⟨[u], []⟩ ∨ (⟨us, kw⟩ : Args) = ⟨[], [(p, u)]⟩)
    (q : ∀ a d, H a = none → H d = none → d ≠ a → Q (.ref a) (upd (upd H d (.xd [(p, v)])) a (ExV (.ref C) (some d) a))) : wpAny (model X.prog X.w) X.A (call (.ref C) us kw) (EP X pins σ Q) X.xe s := by
  refine wpAny_call (madeE T U I.kIn I.nolimit (by have := hr.dp; omega) ha fun h' tk e d M => ?_)
  obtain ⟨n1, n2, n3, J⟩ := Inv.made2 (tk := tk) I M r
  exact ⟨.ref e, _, J, rfl, q e d n1 n2 n3⟩
def tMkE (C : Addr) (p : Str) (t : TA) : TE := fun σ H Q => t σ H fun vs H1 => ∃ v, vs = [v] ∧ ∀ a d, H1 a = none → H1 d = none → d ≠ a → Q (.ref a) (upd (upd H1 d (.xd [(p, v)])) a (ExV (.ref C) (some d) a))
/-- X(e), an own error, as a value -/
theorem pe_mkE {e : Expr} {t : TA} {np pos : Pos} {k : Nat} (T : EcK X.K C) (U : EcI X.K C fI p) (gC : X.mg x = some (.ref C)) (hr : Room k X.A) (ha : PA X [e] t) (hg : Gl X x := by rfl) (hdb : (x == ("__debug__" : Str)) = false := by decide)
    (he : starEach (e :: []) X.env = (false, eval e X.env) :: starEach [] X.env := by rfl) (hpl : (backTo pos (starEach [] X.env)).any (·.1) = false := by rfl) : PE X (.Call (.Name x np) [e] [] pos) (tMkE C p t) := by
  refine ⟨fun pins s σ H Q I h => wpAny_Call_Name_kw (ld_glob I hg gC ?_ hdb)⟩
  refine PySem.W.callWith_K (h₀ := X.base) I.ok.mod.kin T.kp (thn (ha.run pos pins s σ H _ I h) fun us s1 ⟨vs, H1, I1, r, v, ev, q⟩ => ⟨I1.kIn, ?_⟩) he hpl
  subst ev
  obtain ⟨u, rfl, ru⟩ := vals1 r
  exact run_mkE T U hr I1 ru (.inl rfl) q
/-- X(p = e) -/
theorem pe_mkEk {e : Expr} {te : TE} {np pos kpos : Pos} {k : Nat} (T : EcK X.K C) (U : EcI X.K C fI p) (gC : X.mg x = some (.ref C)) (hr : Room k X.A) (ha : PE X e te) (hg : Gl X x := by rfl) (hdb : (x == ("__debug__" : Str)) = false := by decide)
    (hall : (backToKw pos (keywordEach [⟨some p, e, kpos⟩] X.env)).all (·.1.isSome) = true := by rfl) (hks : (backToKw pos (keywordEach [⟨some p, e, kpos⟩] X.env)).filterMap (·.1) = [p] := by rfl)
    (hpl : ((backTo pos (starEach [] X.env)).any (·.1) || (backToKw pos (keywordEach [⟨some p, e, kpos⟩] X.env)).any (·.1.isNone)) = false := by rfl) : PE X (.Call (.Name x np) [] [⟨some p, e, kpos⟩] pos) (tMkE C p (tCons te tNil)) := by
  refine ⟨fun pins s σ H Q I h => wpAny_Call_Name_kw (ld_glob I hg gC ?_ hdb)⟩
  have hk : PK X [⟨some p, e, kpos⟩] (tCons te tNil) := pk_cons ha pk_nil
  refine PySem.W.callWith_KW0 (h₀ := X.base) I.ok.mod.kin T.kp hall (thn (hk.run pos pins s σ H _ I h) fun us s1 ⟨vs, H1, I1, r, v, ev, q⟩ => ⟨I1.kIn, ?_⟩) hpl
  subst ev
  obtain ⟨u, rfl, ru⟩ := vals1 r
  rw [hks]
  exact run_mkE T U hr I1 ru (.inr rfl) q
/-- a bare own error: no __init__ of its own, no argument -/
theorem made0 {Q : Value → Shared → Prop} {A : Around} {E : Value → Shared → Prop} (T : EcK X.K C) (h0 : PySem.W.findIn X.K (.ref C) "__init__" = some (some (.builtin "Exception.__init__"))) (I : Inv X pins σ H s)
    (q : ∀ (h' : Heap) (a t : Addr), (∀ b o, s.heap.get? b = some o → h'.get? b = some o) → s.heap.objs.size ≤ a → h'.get? a = some (PySem.W.excObj C t none .none) → Q (.ref a) { s with heap := h' }) : wpAny (model X.prog X.w) A (call (.ref C) []) Q E s := by
  obtain ⟨nm, N, qn, bs, bm, hdct, sn, sub, ab, col, dd, k0, k1, k2, k3, k5, hC, tl⟩ := PySem.W.excInit_of I.kIn T.mke
  have hi := PySem.W.looks_findIn (M := model X.prog X.w) I.kIn h0
  obtain ⟨hp, g, d, t, os⟩ := s
  exact PySem.W.call_B F.excBase_Exception tl hC hi (Nat.zero_le _) fun h' k e _ => q h' _ _ k (Nat.le_succ _) e
def tMk0 (C : Addr) : TE := fun _ H Q => ∀ a, H a = none → Q (.ref a) (upd H a (ExV (.ref C) none a))
theorem pe_mk0 {np pos : Pos} (T : EcK X.K C) (h0 : PySem.W.findIn X.K (.ref C) "__init__" = some (some (.builtin "Exception.__init__"))) (gC : X.mg x = some (.ref C)) (hg : Gl X x := by rfl) (hdb : (x == ("__debug__" : Str)) = false := by decide) :
    PE X (.Call (.Name x np) [] [] pos) (tMk0 C) := by
  refine ⟨fun pins s σ H Q I h => wpAny_Call_Name_kw (ld_glob I hg gC ?_ hdb)⟩
  refine PySem.W.callWith_K0 I.kIn T.kp (made0 T h0 I fun h' a t k na ha => ?_)
  exact ⟨.ref a, _, I.laid (t' := s.toks) (o := ExV (.ref C) none a) k na (exV_ok ha ⟨rfl, rfl⟩ rfl), rfl, h a (I.hok.fresh na)⟩
/-- e.f, e an own error -/
def tExf (C : Addr) (f : Str) (te : TE) : TE := fun σ H Q => te σ H fun y H1 => ∃ (a dd : Addr) (fs : List (Str × V)) (v : V), y = .ref a ∧ H1 a = some (ExV (.ref C) (some dd) a) ∧ H1 dd = some (.xd fs) ∧ fs.lookup f = some v ∧ Q v H1
theorem inst_of {H1 : Hp} {a : Addr} {d : Option Addr} (I : Inv X pins σ H1 s) (ha : H1 a = some (ExV (.ref C) d a)) (hd : ∀ dd, d = some dd → ∃ fs, H1 dd = some (.xd fs)) : ∃ (oe : Obj) (od : Option Obj), PySem.W.InstAt s.heap a oe C od ∧
    ∀ dd fs, d = some dd → H1 dd = some (.xd fs) → ∃ o, od = some o ∧ ∀ n v, fs.lookup n = some v → ∃ u, PySem.W.lookIn n o = some (some u) ∧ L2.RelV v u := by
  obtain ⟨oe, vs, ho, hz, hv⟩ := exV_at I.hok ha
  have nc : PySem.W.notCls oe = true := by
    unfold PySem.W.notCls
    rw [hv] <;> rfl
  cases d with
  | none =>
    refine ⟨oe, none, ⟨ho, hz.1, nc, ?_⟩, fun dd _ z => nomatch z⟩
    rw [hz.2]
    trivial
  | some dd =>
    obtain ⟨fs, hf⟩ := hd dd rfl
    obtain ⟨mA, hns, hr⟩ := (show ObjOk X.prog X.w H1 s.heap dd (.xd fs) from I.hok dd _ hf)
    obtain ⟨od, hod, hl⟩ := lookIn_ns hns
    refine ⟨oe, some od, ⟨ho, hz.1, nc, ?_⟩, fun d2 fs2 e2 h2 => ?_⟩
    · rw [hz.2]
      exact hod
    · cases e2
      rw [hf] at h2
      cases h2
      refine ⟨od, rfl, fun n v e => ?_⟩
      obtain ⟨u, hu, ru⟩ := RelO.some_of (v := v) (o := mA n) (by rw [← e]; exact hr n)
      exact ⟨u, by rw [hl, hu], ru⟩
theorem pe_exf {e : Expr} {te : TE} {n : Str} {pos : Pos} (T : EcK X.K C) (hno : PySem.W.findIn X.K (.ref C) n = some none) (he : PE X e te) (hb : attributeBase e n X.env (eval e X.env) = eval e X.env := by rfl) : PE X (.Attribute e n pos) (tExf C n te) := by
  refine ⟨fun pins s σ H Q I h => attr_of hb (thn (he.run pins s σ H _ I h) fun u s1 ⟨y, H1, I1, ry, a, dd, fs, v, ey, ha, hd, hl, q⟩ => ?_)⟩
  subst ey
  obtain rfl : u = Value.ref a := ry
  obtain ⟨oe, od, J, look⟩ := inst_of I1 ha fun d2 e2 => ⟨fs, by cases e2; exact hd⟩
  obtain ⟨o, rfl, lk⟩ := look dd fs rfl hd
  obtain ⟨w', hw, rw'⟩ := lk n v hl
  exact HandSPX.exc_get I1.kIn J T.ga T.gg T.ex (PySem.W.findObj_own T.hd hno rfl hw) (handed_of rw') ⟨v, H1, I1.tok _, rw', q⟩
/-- isinstance(e, c), e an own error -/
def rIsX (K : PySem.W.Frag) (C : Addr) : List V → Hp → VK → Prop := fun xs H Q => ∃ (a : Addr) (d : Option Addr) (c : V) (cv : Value) (b : Bool), xs = [.ref a, c] ∧ H a = some (ExV (.ref C) d a) ∧ (∀ dd, d = some dd → ∃ fs, H dd = some (.xd fs)) ∧
  (∀ u, L2.RelV c u → u = cv) ∧ PySem.W.kitOne K (.ref C) cv = some b ∧ Q (.bl b) H
theorem call_isX (T : EcK X.K C) : CallR X (.builtin "isinstance") (rIsX X.K C) := by
  intro pins s σ H xs us Q I r h
  obtain ⟨a, d, c, cv, b, rfl, ha, hd, hc, e, q⟩ := h
  obtain ⟨u1, u2, rfl, r1, r2⟩ := vals2 r
  cases r1
  have ec := hc _ r2
  subst ec
  obtain ⟨oe, od, J, _⟩ := inst_of I ha hd
  have hcl : (PySem.W.clsIn X.K C).isSome = true := by
    obtain ⟨cd, hcd, _⟩ := PySem.W.any_some T.hd
    rw [hcd]
    rfl
  exact PySem.W.kia_one (PySem.W.kitx_exc hcl T.ga T.gg T.ex T.cl T.gt T.tk T.ob) I.kIn J e (fun z => nomatch z) fun tk => ⟨.bl b, H, I.kept (t' := tk) fun _ _ z => z, rfl, q⟩
end
end Vk
set_option Elab.async false
set_option linter.all false
set_option maxRecDepth 100000
set_option maxHeartbeats 4000000
namespace Vk
open PySem PySem.Spec PyProof.Rows L2 PySem.Vx
section
variable {X : Cx} {pins : List (Addr × Obj)} {σ : L2.St} {H : Hp} {s : Shared} {C fI : Addr} {p x : Str}
/-- raise X(e): the error is let go, its dict stands -/
theorem pmk_E {e : Expr} {t : TA} {np pos : Pos} {k : Nat} (T : EcK X.K C) (U : EcI X.K C fI p) (gC : X.mg x = some (.ref C)) (hr : Room k X.A) (ha : PA X [e] t) (hg : Gl X x := by rfl) (hdb : (x == ("__debug__" : Str)) = false := by decide)
    (he : starEach (e :: []) X.env = (false, eval e X.env) :: starEach [] X.env := by rfl) (hpl : (backTo pos (starEach [] X.env)).any (·.1) = false := by rfl) :
    PMk X (.Call (.Name x np) [e] [] pos) (fun σ H Q => t σ H fun vs H1 => ∃ v, vs = [v] ∧ ∀ d, H1 d = none → Q (.ref C) (some d) (upd H1 d (.xd [(p, v)]))) := by
  intro pins s σ H Q I h
  refine wpAny_Call_Name_kw (ld_glob I hg gC ?_ hdb)
  refine PySem.W.callWith_K (h₀ := X.base) I.ok.mod.kin T.kp (thn (ha.run pos pins s σ H _ I h) fun us s1 ⟨vs, H1, I1, r, v, ev, q⟩ => ⟨I1.kIn, ?_⟩) he hpl
  subst ev
  obtain ⟨u, rfl, ru⟩ := vals1 r
  have room : X.A.depth + 1 < recursionLimit := by have := hr.dp; omega
  refine wpAny_call (madeE T U I1.kIn I1.nolimit room (.inl rfl) fun h' tk e d M => ?_)
  obtain ⟨t1, ho⟩ := M.obj
  obtain ⟨G, g1, g2⟩ := restrict h' fun b => decide (b ≠ e)
  have gk : ∀ b, b ≠ e → G.get? b = h'.get? b := fun b hb => g1 b (decide_eq_true hb)
  have ge : G.get? e = none := g2 e (by simp)
  have ob : ObjOk X.prog X.w (upd H1 d (.xd [(p, v)])) G d (.xd [(p, v)]) := ⟨_, M.ns.at (fun o q => (gk d M.dne).trans q), fun f => relO_one ru f⟩
  have J : Inv X pins σ (upd H1 d (.xd [(p, v)])) ⟨G, s1.gens, s1.drawn, tk, s1.os⟩ := I1.laid (t' := tk) (fun b o q => (gk b (Nat.ne_of_lt (Nat.lt_of_lt_of_le (Heap.lt_size q) M.new))).trans (M.keep b o q)) M.dbig ob
  refine ⟨e, _, _, ⟨G, s1.gens, s1.drawn, tk, s1.os⟩, _, .ref C, some d, rfl, J, fun b o q => ?_, ge, ho, ⟨rfl, rfl⟩, rfl, rfl, ?_, rfl, I1.bare, raises_own T.ex T.ty, q d (I1.hok.fresh M.dbig)⟩
  · by_cases hb : b = e
    · have z : G.get? b = some o := q
      rw [hb, ge] at z
      cases z
    · exact (gk b hb).symm.trans q
  · rw [upd_ne (Ne.symm M.dne)]
    exact I1.hok.fresh M.new
/-- raise X() -/
theorem pmk_0 {np pos : Pos} (T : EcK X.K C) (h0 : PySem.W.findIn X.K (.ref C) "__init__" = some (some (.builtin "Exception.__init__"))) (gC : X.mg x = some (.ref C)) (hg : Gl X x := by rfl) (hdb : (x == ("__debug__" : Str)) = false := by decide) :
    PMk X (.Call (.Name x np) [] [] pos) (fun _ H Q => Q (.ref C) none H) := by
  intro pins s σ H Q I h
  refine wpAny_Call_Name_kw (ld_glob I hg gC ?_ hdb)
  refine PySem.W.callWith_K0 I.kIn T.kp (made0 T h0 I fun h' a t k na ha => ?_)
  have none_a : s.heap.get? a = none := by
    cases e : s.heap.get? a with
    | none => rfl
    | some o => exact absurd (Heap.lt_size e) (Nat.not_lt.mpr na)
  exact ⟨a, _, _, s, H, .ref C, none, rfl, I, k, none_a, ha, ⟨rfl, rfl⟩, rfl, rfl, I.hok.fresh na, rfl, I.bare, raises_own T.ex T.ty, h⟩
/-- a pinned exception that is newer than the def's entry is tracked -/
theorem Inv.track {a : Addr} {oe : Obj} {vs : Array Value} {cls : Value} {d : Option Addr} (I : Inv X ((a, oe) :: pins) σ H s) (hz : Zc cls d oe) (hv : oe.data = .fields vs) (h0 : X.s_0.heap.get? a = none) (hp : ∀ q ∈ X.pn ++ pins, q.1 ≠ a) :
    Inv X pins σ (upd H a (ExV cls d a)) s := by
  obtain ⟨hget, na, nL, nF, ncell⟩ := I.pin (a, oe) (List.mem_append_right _ List.mem_cons_self)
  have tr : ∀ b o, H b = some o → upd H a (ExV cls d a) b = some o := fun b o q => by rw [upd_ne (ne_of_none q na)]; exact q
  refine ⟨I.ok, I.os, I.bare, ⟨I.base.keep, I.base.slot, fun b o e n hx => ?_, I.base.there, fun b xs e => tr b _ (I.base.tups b xs e), fun b o xs e => tr b _ (I.base.frzs b o xs e), fun b ps e => ?_⟩, I.loc, I.cell, ?_, fun y c e => ?_, fun q hq => ?_, fun b o e => ?_, I.len⟩
  · have nb : b ≠ a := fun z => by
      rw [z, h0] at e
      cases e
    rw [upd_ne nb]
    exact I.base.free b o e n hx
  · obtain ⟨m, z⟩ := I.base.tbls b ps e
    exact ⟨m, tr b _ z⟩
  · rw [upd_ne (Ne.symm nL)]
    exact I.free
  · have nc : c ≠ a := fun z => by
      obtain ⟨v, o, ho, hd⟩ := I.cell y c e
      rw [z] at ho
      have hg2 : s.heap.get? a = some oe := hget
      rw [hg2] at ho
      cases ho
      exact ncell v hd
    rw [upd_ne nc]
    exact I.freeC y c e
  · obtain ⟨e1, n1, l1, f1, c1⟩ := I.pin q (by
      rcases List.mem_append.mp hq with z | z
      · exact List.mem_append_left _ z
      · exact List.mem_append_right _ (List.mem_cons_of_mem _ z))
    exact ⟨e1, by rw [upd_ne (hp q hq)]; exact n1, l1, f1, c1⟩
  · by_cases hb : b = a
    · subst hb
      rw [upd_same] at e
      cases e
      exact exV_ok hget hz hv
    · rw [upd_ne hb] at e
      exact (I.hok b o e).stay (fun c v _ z => z) (fun c z => tr c _ z) fun c xs z => tr c _ z
theorem Inv.unsuiteP {a : Addr} {q : Addr × Obj} (I : Inv (X.suite a (q :: (X.pn ++ pins))) [] σ H s) (ok : X.Ok) : Inv X (q :: pins) σ H s :=
  ⟨ok, I.os, I.bare, I.base, I.loc, I.cell, I.free, I.freeC, fun r hr => I.pin r (List.mem_append_left _ (by
    rcases List.mem_append.mp hr with z | z
    · exact List.mem_cons_of_mem _ (List.mem_append_left _ z)
    · rcases List.mem_cons.mp z with z | z
      · rw [z]
        exact List.mem_cons_self
      · exact List.mem_cons_of_mem _ (List.mem_append_right _ z))), I.hok, I.len⟩
end
/-- what 'except x as n' wishes of an exception of the body; behind the suite the exception is tracked -/
def wKeep (K : PySem.W.Frag) (c : Value) (i : Nat) (ts : Addr → Value → Option Addr → TS) (Wout : WX) (D : Ends) : WX := fun cls d σ H =>
  ∃ b, PySem.W.exmOne K cls c = some b ∧ (b = true → ∀ a, H a = none → ts a cls d { nx := fun σ' H' => D.nx (σ'.set i none) (upd H' a (ExV cls d a)), rt := fun v H' => D.rt v (upd H' a (ExV cls d a)), bk := fun σ' H' => D.bk (σ'.set i none) (upd H' a (ExV cls d a)), ct := fun σ' H' => D.ct (σ'.set i none) (upd H' a (ExV cls d a)) } (σ.set i (some (.ref a))) H) ∧ (b = false → Wout cls d σ H)
section
variable {X : Cx} {x n : Str} {c : Value} {i : Nat} {body suite : List Stmt} {b₀ : Stmt} {np pos pos' : Pos} {tb : WX → TS} {ts : Addr → Value → Option Addr → TS} {Wout : WX}
theorem ps_try_keep (hex : X.ex = []) (hs : X.stack = X.env :: X.outer) (hf : X.env.frame = some X.env.locals) (hN : X.N.Nodup) (hi : X.N[i]? = some n) (hln : X.env.kindOf n = some .local) (hc : Names X x c) (tk : Takes X Wout)
    (hb : ∀ (W : WX) (pn : List (Addr × Obj)) (xe : Value → Shared → Prop), Takes (X.tr pn xe) W → PassesOwn (model X.prog X.w) X.A X.env xe → PSs (X.tr pn xe) body (tb W))
    (hsu : ∀ (a : Addr) (oe : Obj) (cls : Value) (d : Option Addr) (pn : List (Addr × Obj)), Zc cls d oe → (∃ vs, oe.data = .fields vs) → PSs (X.suite a ((a, oe) :: pn)) (b₀ :: suite) (ts a cls d)) :
    PS X (.Try body [.ExceptHandler (some (.Name x np)) (some n) (b₀ :: suite) pos'] [] [] pos) (fun D σ H => tb (wKeep X.K c i ts Wout D) D σ H) := by
  refine ⟨fun pins s σ H D I h => ?_⟩
  have ok := I.ok
  have hfr : X.A.frames = some (X.env :: X.outer) := by rw [ok.frames, hs]
  have locN : Loc X.env.scope n := .inl hln
  refine wpAny_Try_except ?_
  refine wpAny_mono ((hb (wKeep X.K c i ts Wout D) (X.pn ++ pins) (fun e s₁ => wpAny (model X.prog X.w) X.A (noteFrame e X.env) (fun _ s₂ => wpAny (model X.prog X.w) X.A (setFlight e none)
    (fun _ s₃ => wpAny (model X.prog X.w) X.A (handleBy e X.env [.ExceptHandler (some (.Name x np)) (some n) (b₀ :: suite) pos']) (SP X pins D) X.xe s₃) X.xe s₂) X.xe s₁) (fun u s' xx => ?_) PassesOwn.looking).run [] s σ H D (I.toTry _) h)
    (fun f s1 hsp => ?_) (fun e s1 he => he)
  · obtain ⟨a, B, sI, pins', σ', H', cls, d, rfl, J', nb, up, sky, na, os, ag, b, hb1, hyes, hno⟩ := xx
    have J : Inv X pins σ' H' sI := J'.ofTry ok
    have sky2 : Sky B (X.env :: X.outer) a (Zc cls d) X.env.locals s'.heap := by rw [← hs]; exact sky
    have notB : B.get? a = none := by
      rcases sky with ⟨_, z, _⟩ | z | z
      · exact z
      · exact z.2.1
      · exact z.2.1
    show wpAny (model X.prog X.w) X.A (noteFrame (.ref a) X.env) _ _ _
    refine Sky.land Zc.steady hfr hf sky2 fun h3 fl3 up3 => ?_
    have J3 : Inv X pins σ' H' { s' with heap := h3 } := J.landed nb fl3.1 (up.trans up3) os ag
    obtain ⟨oe3, vs3, he3, hz3, hd3⟩ := fl3.there
    have nfr : a ∉ frs (X.env :: X.outer) := fun hm => by
      obtain ⟨_, o', e', hnf⟩ := fl3.2.2.1.mem hm
      rw [he3] at e'
      cases e'
      exact hnf _ hd3
    have notI : sI.heap.get? a = none := by
      cases e : sI.heap.get? a with
      | none => rfl
      | some o =>
        have z := nb a o e (by rw [hs]; exact nfr)
        rw [notB] at z
        cases z
    have not0 : X.s_0.heap.get? a = none := by
      cases e : X.s_0.heap.get? a with
      | none => rfl
      | some o =>
        obtain ⟨o', z⟩ := J.base.there a o e (by rw [hex]; exact fun z => nomatch z)
        rw [notI] at z
        cases z
    have nPin : ∀ q ∈ X.pn ++ pins, q.1 ≠ a := fun q hq z => by
      have y := (J'.pin q (List.mem_append_left _ hq)).1
      rw [z, notI] at y
      cases y
    have nL : a ≠ X.env.locals := fun z => nfr (List.mem_filterMap.mpr ⟨X.env, List.mem_cons_self, by rw [hf, z]⟩)
    have nF : a ∉ X.fs := fun hm => by
      obtain ⟨e, he, q⟩ := List.mem_filterMap.mp hm
      exact nfr (List.mem_filterMap.mpr ⟨e, List.mem_cons_of_mem _ he, q⟩)
    have S3 := J3.suite he3 hd3 na nL nF
    refine wpAny_handleBy_cons (codeAny_handlers_test ?_) (by intro q; cases q)
    have LT : PySem.W.Looks (model X.prog X.w) h3 (typeOf (.ref a)) cls := fun A Q E s k q => wpAny_typeOf_ref (k _ _ he3) (by rw [hz3.1]; exact q)
    have LM := PySem.W.exm_one (M := model X.prog X.w) (J3.kIn) LT hb1
    have test : ∀ {Q : Value → Shared → Prop} {E : Value → Shared → Prop}, Q c { s' with heap := h3 } → wpAny (model X.prog X.w) (X.A.mark (some (.ref a))) (eval (.Name x np) X.env) Q E { s' with heap := h3 } := fun {Q E} q => by
      obtain ⟨hg, hdbg, hm | ⟨hm, hv, hnn⟩⟩ := hc
      · exact ld_glob (X := X.suite a ((a, oe3) :: (X.pn ++ pins))) S3 hg hm q hdbg
      · exact ld_blt (X := X.suite a ((a, oe3) :: (X.pn ++ pins))) S3 hg hm hv q hnn hdbg
    refine test (LM.here ?_)
    cases b with
    | true =>
      refine codeAny_handlers_suite_as ?_
      refine HandSPX.lands_againZ fl3 fun h4 fl4 up4 => ?_
      have J4 : Inv X pins σ' H' { s' with heap := h4 } := J.landed nb fl4.1 ((up.trans up3).trans up4) os ag
      obtain ⟨oe4, vs4, he4, hz4, hd4⟩ := fl4.there
      have S4 := J4.suite he4 hd4 na nL nF
      refine store_ok (X := X.suite a ((a, oe4) :: (X.pn ++ pins))) (v := .ref a) S4 hN hi locN rfl (fun s5 S5 => ?_) (.inr hln)
      refine wpAny_mono ((hsu a oe4 cls d (X.pn ++ pins) hz4 ⟨_, hd4⟩).run [] s5 _ H' _ S5 (hyes rfl a na)) (fun f s6 hsp => ?_) (fun _ _ z => False.elim z)
      have fin : ∀ {σ6 : L2.St} {H6 : Hp} {Q : Shared → Prop}, Inv (X.suite a ((a, oe4) :: (X.pn ++ pins))) [] σ6 H6 s6 → (∀ s7, Inv X pins (σ6.set i none) (upd H6 a (ExV cls d a)) s7 → Q s7) →
          wpAny (model X.prog X.w) X.A (do bindName X.env n .none; unbindBehindTheSuite X.env n pos') (fun _ s7 => Q s7) X.xe s6 :=
        fun {σ6 H6 Q} S6 hq => gone_ok (Inv.unsuiteP S6 ok) hN hi hln fun s7 J7 => hq s7 (Inv.track J7 hz4 hd4 not0 nPin)
      cases f with
      | next =>
        obtain ⟨σ6, H6, S6, q6⟩ := hsp
        exact fin S6 fun s7 J7 => ⟨_, _, J7, q6⟩
      | brk =>
        obtain ⟨σ6, H6, S6, q6⟩ := hsp
        exact fin S6 fun s7 J7 => ⟨_, _, J7, q6⟩
      | cont =>
        obtain ⟨σ6, H6, S6, q6⟩ := hsp
        exact fin S6 fun s7 J7 => ⟨_, _, J7, q6⟩
      | ret u =>
        obtain ⟨v6, σ6, H6, S6, r6, q6⟩ := hsp
        exact fin S6 fun s7 J7 => ⟨_, _, _, J7, r6, q6⟩
    | false =>
      show wpAny _ X.A (handleBy (.ref a) X.env []) _ _ _
      refine wpAny_handleBy_nil ?_
      obtain ⟨k1, k2, k3, oe, vs, T, oT, ts', he, hz, hd, h1, hr⟩ := id fl3
      unfold PySem.passOn
      refine wpAny_bind (wpAny_field he hd h1 ?_)
      rw [if_neg (show ¬ ((Value.ref T == Value.none) = true) from by simp)]
      have fin : wpAny (model X.prog X.w) X.A (setFlight (.ref a) X.env.frame) (fun _ s4 => wpAny (model X.prog X.w) X.A (throw (.ref a) : Sem Flow) (SP X pins D) X.xe s4) X.xe { s' with heap := h3 } := by
        rw [hf]
        refine HandSPX.setFlight_upZ fl3 fun h4 hh4 up4 => wpAny_throw (tk _ _ ?_)
        exact ⟨a, B, sI, pins, σ', H', cls, d, rfl, J, nb, (up.trans up3).trans up4, .inr (.inr (by rw [hs]; exact hh4)), na, os, ag, hno rfl⟩
      first
        | exact wpAny_bind (wpAny_pure (wpAny_bind fin))
        | exact wpAny_bind fin
  · cases f with
    | next =>
      obtain ⟨σ', H', J', q⟩ := hsp
      exact wpAny_execs_nil ⟨σ', H', J'.ofTry ok, q⟩
    | brk =>
      obtain ⟨σ', H', J', q⟩ := hsp
      exact ⟨σ', H', J'.ofTry ok, q⟩
    | cont =>
      obtain ⟨σ', H', J', q⟩ := hsp
      exact ⟨σ', H', J'.ofTry ok, q⟩
    | ret u =>
      obtain ⟨v, σ', H', J', r, q⟩ := hsp
      exact ⟨v, σ', H', J'.ofTry ok, r, q⟩
end
end Vk
set_option Elab.async false
set_option linter.all false
set_option maxRecDepth 100000
set_option maxHeartbeats 4000000
namespace Vk
open PySem PySem.Spec PyProof.Rows L2
abbrev St := L2.St
section
variable {X : Cx}
/-- a list comprehension, its list's place no table of the machine's -/
def tLcN (wi : TI) (g : TG) (tt : TT) (te : TE) (vs : List Nat) : TE := fun σ H Q => wi σ H fun J H1 => ∀ D, H1 D = none → D ≠ sysModules → ∃ W : Nat → Nat → Hp → Prop,
  (∃ m, W 0 m (upd H1 D (.lst []))) ∧ ∀ i m H, W i m H → (J.stop i H ∧ Q (.ref D) H) ∨ (J.go i H ∧ ∃ Nx : Hp → Prop, (∀ H', Nx H' → ∃ m', m' < m ∧ W (i + 1) m' H') ∧
    ∀ x H', J.yld i H x H' → g x (wipe σ vs) H' fun σ2 H2 => wipe σ2 vs = wipe σ vs ∧ tt σ2 H2 fun b H3 => if b = true then te σ2 H3 fun y H4 => ∃ acc, H4 D = some (.lst acc) ∧ acc.length < sizeLine ∧ Nx (upd H4 D (.lst (acc ++ [y]))) else Nx H3)
theorem lcN {pins : List (Addr × Obj)} {s : Shared} {σ : St} {H : Hp} {Q : VK} {elt tg iter : Expr} {ifs : List Expr} {scope : Scope} {own : List (Str × Nat)} {pos pos' : Pos} {wi : TI} {g : TG} {tt : TT} {te : TE} {use : Option (Value → Sem Unit)} {Qf : Value → Shared → Prop}
    (hc : X.calm = true) (hN : X.N.Nodup) (I : Inv X pins σ H s) (hi : PI X tg iter wi) (ok : BlkOk X.N X.env.scope scope own)
    (hg : ∀ (s : Shared) (H : Hp) (C : Addr) (cl : List (Str × Addr)) (fp : List Addr), PG (X.blk s H scope (compEnvC scope cl C X.env) fp) tg g) (ht : ∀ (s : Shared) (H : Hp) (C : Addr) (cl : List (Str × Addr)) (fp : List Addr), PTs (X.blk s H scope (compEnvC scope cl C X.env) fp) ifs tt)
    (he : ∀ (s : Shared) (H : Hp) (C : Addr) (cl : List (Str × Addr)) (fp : List Addr), PE (X.blk s H scope (compEnvC scope cl C X.env) fp) elt te) (hs : ∀ x, foldedSetIterable iter X.env x = pure x)
    (h : tLcN wi g tt te (own.map (·.2)) σ H Q)
    (post : ∀ D C s' m H', Inv X pins σ H' s' → Q (.ref D) H' → s'.heap.Ns C m → FpOk X pins H' C → compPost (model X.prog X.w) X.A X.xe use Qf (.ref D) C (.ok .next) s') :
    wpAny (model X.prog X.w) X.A (comprehension (.ListComp elt [⟨tg, iter, ifs, 0⟩] scope pos) scope X.env pos' (newList []) false (eval iter X.env) use) Qf X.xe s := by
  have allFree : ∀ y ∈ scope.names, y.2 = .free → ∃ c, X.env.cells.lookup y.1 = some c := fun y hy e => by
    rcases ok.free y hy e with k | k
    · exact I.ok.has _ (.inl k)
    · exact I.ok.has _ (.inr k)
  refine wpAny_comprehension_free (use := use) rfl hs (closure_ok allFree) ok.kind (fun y hy e => by rw [ok.uniq y hy, e])
    (thn (hi.run pins s σ H _ I h) fun xv z1 hx => thn hx fun itv z2 h2 => ?_)
  obtain ⟨it, fp, tn, J, G2, e, U2, T, at2, okF2, q⟩ := h2
  subst e
  refine wpAny_newObj_type (newEnv_comp ?_) (by show 0 ≤ sizeLine; decide)
  generalize eqD : z2.heap.objs.size = D
  have newD : G2 D = none := U2.hok.fresh (Nat.le_of_eq eqD)
  obtain ⟨W, ⟨start0, first⟩, turn⟩ := q D newD (by rw [← eqD]; exact Nat.ne_of_gt U2.big)
  -- the new list
  generalize eqz3 : ({ z2 with heap := z2.heap.push { cls := .type "list", data := .seq ([] : List Value).toArray } } : Shared) = z3
  have U3 : Inv X pins σ (upd G2 D (.lst [])) z3 := by
    rw [← eqz3]
    refine U2.laid (t' := z2.toks) (fun b o e => Heap.get?_push_of_some _ e) (Nat.le_of_eq eqD) ⟨Nat.zero_le _, [], 0, .nil, ?_⟩
    rw [← eqD]
    exact Heap.get?_push_size _ rfl
  have heap3 : z3.heap = z2.heap.push { cls := .type "list", data := .seq ([] : List Value).toArray } := by rw [← eqz3]
  have below : ∀ b ∈ fp, b < z2.heap.objs.size := fun b hb => by
    obtain ⟨o, e, _⟩ := T.obj _ _ at2 b hb
    exact Heap.lt_size e
  have okF : ∀ b ∈ fp, FpOk X pins (upd G2 D (.lst [])) b ∧ b < z3.heap.objs.size := fun b hb => by
    have hlt := below b hb
    refine ⟨⟨?_, (okF2 b hb).2⟩, by rw [heap3, Heap.size_push]; exact Nat.lt_succ_of_lt hlt⟩
    rw [upd_ne (by rw [← eqD]; exact Nat.ne_of_lt hlt)]
    exact (okF2 b hb).1
  have at3 : tn 0 z3.heap := T.keep _ _ _ at2 fun b _ o e => by rw [heap3]; exact Heap.get?_push_of_some _ e
  have U4 := block_start U3 ok hN okF
  have gg := hg z3 (upd G2 D (.lst [])) z3.heap.objs.size (cellsFrom (z3.heap.objs.size + 1) scope.names (cloFrom X.env.cells scope.names [])) fp
  have gt := ht z3 (upd G2 D (.lst [])) z3.heap.objs.size (cellsFrom (z3.heap.objs.size + 1) scope.names (cloFrom X.env.cells scope.names [])) fp
  have ge := he z3 (upd G2 D (.lst [])) z3.heap.objs.size (cellsFrom (z3.heap.objs.size + 1) scope.names (cloFrom X.env.cells scope.names [])) fp
  show codeAny _ _ (.compStart (.ListComp elt [⟨tg, iter, ifs, 0⟩] scope pos) 0 (.ref it) (.ref D) (compEnvC scope (cellsFrom (z3.heap.objs.size + 1) scope.names (cloFrom X.env.cells scope.names [])) z3.heap.objs.size X.env)) (compPost (model X.prog X.w) X.A X.xe use Qf (.ref D) z3.heap.objs.size) { z3 with heap := pushCells (z3.heap.push { cls := .type "dict", data := .dict #[] }) scope.names }
  have noF : ∀ b ∈ fp, (upd G2 D (.lst [])) b = none := fun b hb => (okF b hb).1.1
  generalize eqC : compEnvC scope (cellsFrom (z3.heap.objs.size + 1) scope.names (cloFrom X.env.cells scope.names [])) z3.heap.objs.size X.env = cenv at U4 gg gt ge ⊢
  have locC : cenv.locals = z3.heap.objs.size := by subst eqC; rfl
  generalize eqG3 : upd G2 D (.lst []) = G3 at U3 U4 gg gt ge first noF okF
  generalize eqz4 : ({ z3 with heap := pushCells (z3.heap.push { cls := .type "dict", data := .dict #[] }) scope.names } : Shared) = z4 at U4 ⊢
  have at4 : tn 0 z4.heap := T.keep _ _ _ at3 fun b _ o e => by rw [← eqz4]; exact pushCells_keeps _ _ _ _ (Heap.get?_push_of_some _ e)
  have still : ∀ {σ' : St} {H' : Hp} {s' : Shared}, Inv (X.blk z3 G3 scope cenv fp) [] σ' H' s' → (∀ b ∈ fp, H' b = none) → ∀ b ∈ fp, FpOk (X.blk z3 G3 scope cenv fp) [] H' b := fun {σ' H' s'} I' nsC b hb =>
    ⟨nsC b hb, (I'.ok.exf b hb).1, I'.ok.exfs b hb, .inl hb, fun x c e => (I'.ok.exf b hb).2 x c e, fun p hp => absurd (show p ∈ ([] : List (Addr × Obj)) ++ [] from hp) (by simp)⟩
  have loop : codeAny (model X.prog X.w) X.A (.compLoop (.ListComp elt [⟨tg, iter, ifs, 0⟩] scope pos) 0 (.ref it) (.ref D) cenv) (compPost (model X.prog X.w) X.A X.xe use Qf (.ref D) z3.heap.objs.size) z4 := by
    refine compLoop_any (fun n s' => ∃ i H', Inv (X.blk z3 G3 scope cenv fp) [] (wipe σ (own.map (·.2))) H' s' ∧ tn i s'.heap ∧ (∀ b ∈ fp, H' b = none) ∧ W i n H') ?_ start0 ⟨0, G3, U4, at4, noF, first⟩
    rintro n z5 ⟨i, G5, U5, at5, no5, at_w⟩
    rcases turn i n G5 at_w with ⟨stop, fin0⟩ | ⟨go, Nx, toNx, goStep⟩
    · have stopD := T.done (X.blk z3 G3 scope cenv fp) rfl rfl rfl hc i [] z5 _ G5 (fun _ _ => False) U5 (still U5 no5) at5 stop
      refine thnF stopD fun r z6 ⟨isR, U6⟩ => ?_
      subst isR
      -- back in the def's context
      have U7 : Inv X pins σ G5 z6 := U3.call' (ch := fp) U6.os U6.base U6.hok U6.bare fun b hb => ⟨(okF b hb).1.2.2.2.1, (okF b hb).1.2.1, (okF b hb).1.2.2.2.2.1, (okF b hb).1.2.2.2.2.2⟩
      have freeC0 : G5 z3.heap.objs.size = none := by
        have z : G5 cenv.locals = none := U6.free
        rw [locC] at z
        exact z
      obtain ⟨m, nsC, _⟩ := U6.loc
      have nsC : z6.heap.Ns cenv.locals m := nsC
      rw [locC] at nsC
      exact post D z3.heap.objs.size z6 m G5 U7 fin0 nsC (U3.fpOk (Nat.le_refl _) freeC0)
    · have itemD := T.item (X.blk z3 G3 scope cenv fp) rfl rfl rfl hc i [] z5 _ G5 (fun _ _ => False) U5 (still U5 no5) at5 go
      refine thnF itemD fun r z6 ⟨u, isR, next6⟩ => ?_
      subst isR
      refine thnF next6 fun _ z7 ⟨x, G7, U7, rel7, yield7, at7, no7⟩ => ?_
      have U7b := U7.pinned (still U7 no7) (T.obj _ _ at7)
      refine thnF (gg.run _ z7 _ G7 x u _ U7b rel7 (goStep x G7 yield7)) fun _ z8 ⟨σe, G8, U8, wiped, r8⟩ => ?_
      refine thnF (gt.run _ z8 σe G8 _ U8 r8) fun b z9 ⟨G9, U9, r9⟩ => ?_
      -- the turn's end
      have close : ∀ {s' : Shared} {H' : Hp}, Inv (X.blk z3 G3 scope cenv fp) ([] ++ pinsAt fp z7.heap) σe H' s' → Nx H' → ∃ m, m < n ∧ ∃ i H', Inv (X.blk z3 G3 scope cenv fp) [] (wipe σ (own.map (·.2))) H' s' ∧ tn i s'.heap ∧ (∀ b ∈ fp, H' b = none) ∧ W i m H' := fun {s' H'} I' isNx => by
        obtain ⟨m', lt0, w'⟩ := toNx H' isNx
        have pinned0 : ∀ b ∈ fp, ∀ o, z7.heap.get? b = some o → s'.heap.get? b = some o ∧ H' b = none := fun b hb o e =>
          let z := I'.pin (b, o) (List.mem_append_right _ (List.mem_append_right _ (mem_pinsAt hb e)))
          ⟨z.1, z.2.1⟩
        have lenE : (wipe σ (own.map (·.2))).length = σe.length := by rw [← wiped, wipe_length]
        refine ⟨m', lt0, i + 1, H', (I'.unpinned (pins := [])).weak lenE (fun j v e => ?_), T.keep _ _ _ at7 fun b hb o e => (pinned0 b hb o e).1, fun b hb => ?_, w'⟩
        · rw [← wiped] at e
          exact (wipe_some e).1
        · obtain ⟨o, e, _⟩ := T.obj _ _ at7 b hb
          exact (pinned0 b hb o e).2
      cases b with
      | false =>
        simp only [Bool.false_eq_true, if_false] at r9 ⊢
        exact close U9 r9
      | true =>
        simp only [if_true] at r9 ⊢
        refine thnF (ge.run _ z9 σe G9 _ U9 r9) fun z z10 ⟨yv, G10, U10, rel10, acc, atD, small, isNx⟩ => ?_
        exact app_ok (X := X.blk z3 G3 scope cenv fp) U10 atD small rel10 fun z11 U11 => close U11 isNx
  exact codeAny_compStart_list loop (T.self X.A 0 _ _ _ at4 loop)
theorem pe_lcN {elt tg iter : Expr} {ifs : List Expr} {scope : Scope} {own : List (Str × Nat)} {pos : Pos} {wi : TI} {g : TG} {tt : TT} {te : TE} (hc : X.calm = true) (hN : X.N.Nodup) (hi : PI X tg iter wi) (ok : BlkOk X.N X.env.scope scope own)
    (hg : ∀ (s : Shared) (H : Hp) (C : Addr) (cl : List (Str × Addr)) (fp : List Addr), PG (X.blk s H scope (compEnvC scope cl C X.env) fp) tg g)
    (ht : ∀ (s : Shared) (H : Hp) (C : Addr) (cl : List (Str × Addr)) (fp : List Addr), PTs (X.blk s H scope (compEnvC scope cl C X.env) fp) ifs tt)
    (he : ∀ (s : Shared) (H : Hp) (C : Addr) (cl : List (Str × Addr)) (fp : List Addr), PE (X.blk s H scope (compEnvC scope cl C X.env) fp) elt te)
    (hs : ∀ x, foldedSetIterable iter X.env x = pure x := by intro _; rfl) : PE X (.ListComp elt [⟨tg, iter, ifs, 0⟩] scope pos) (tLcN wi g tt te (own.map (·.2))) := by
  refine ⟨fun pins s σ H Q I h => ?_⟩
  rw [eval_ListComp]
  refine lcN hc hN I hi ok hg ht he hs h fun D C s' m H' I' q hn f => ⟨m, hn, fun h2 sb => ?_⟩
  obtain ⟨f0, f1, f2, f3, f4, f5⟩ := f
  exact ⟨.ref D, H', I'.turned (t' := s'.toks) (fun b o hb e => (sb.2 b hb).trans e) f0 f1 f3 f4 f5, rfl, q⟩
end
end Vk
set_option Elab.async false
set_option linter.all false
set_option maxRecDepth 100000
set_option maxHeartbeats 4000000
namespace Vk
open PySem PySem.Spec PyProof.Rows L2
def top (i : Nat) : Stmt := PySem.Challenge.pw_loopsdeep_k01_errors.main.body.getD i (.Pass ⟨0, 0, 0, 0⟩)
abbrev sDeck : Stmt := top 13
abbrev sDraw : Stmt := top 14
abbrev sPick : Stmt := top 15
/-- the deck's pairs -/
def deckK (g : Addr) (m l : Int) : List (Key × V) := [(.inr "great", .ref g), (.inr "mixed", .int m), (.inr "lap", .int l)]
/-- a deck stands at d, its great numbers at g; at most n times drawn -/
structure DeckAt (H : Hp) (d g : Addr) (n : Int) : Prop where
  dk : ∃ m l : Int, H d = some (.dK (deckK g m l)) ∧ 0 ≤ m ∧ m < 2147483648 ∧ 0 ≤ l ∧ l ≤ n
  gr : ∃ gs : List Int, H g = some (.lst (gs.map V.int)) ∧ gs.length ≤ 63
theorem DeckAt.ne {H : Hp} {d g : Addr} {n : Int} (D : DeckAt H d g n) : d ≠ g := by
  obtain ⟨m, l, h1, _⟩ := D.dk
  obtain ⟨gs, h2, _⟩ := D.gr
  exact ne_of h1 h2 (by intro z; cases z)
theorem merge_deck (g : Addr) (m l : Int) : mergeK [] (deckK g m l) = deckK g m l := by
  rfl
/-- all but the deck stays -/
def But (d g : Addr) (H H' : Hp) : Prop := ∀ b o, H b = some o → b ≠ d → b ≠ g → H' b = some o
def spDeck (K : PySem.W.Frag) : Sp := fun vs H Q _ => ∃ (a : Addr) (ns : List Int), vs = [.ref a] ∧ SqL K H a (ns.map V.int) ∧ ns.length ≤ 63 ∧
  ∀ (d g : Addr) (H' : Hp), Same H H' → H d = none → H g = none → DeckAt H' d g 0 → Q (.ref d) H'
section
variable {P : Program} {w : World} {K : PySem.W.Frag} {mg : Str → Option Value} {base : Heap}
theorem scD : FnScope ["_law_script", "_law_mixed", "_law_cell"] ["_law_script"] (defScope sDeck) := ⟨rfl, rfl, rfl, by decide +kernel, rfl, by decide +kernel, by decide +kernel⟩
theorem same_new {H : Hp} {p : Addr} {o : HO} (hp : H p = none) : Same H (upd H p o) := fun b u e => by
  rw [upd_ne (ne_of_none e hp)]
  exact e
theorem ok_deck {f : Addr} {fd : FuncData} (F : Fun K "_law_deck" "_law_deck" sDeck f fd) (mi : mg "int" = none) : FnOk P w K mg base CX0 1 f fd ["_law_script"] (spDeck K) := by
  refine F.ok scD (fun vs H Q E h => ?_) (fun cdv A outer s H vs Q E hr h => ?_)
  · obtain ⟨a, ns, rfl, _⟩ := h
    rfl
  · obtain ⟨a, ns, rfl, hS, hlen, k⟩ := h
    refine ⟨_, pss_cons (ps_set (i := 1) scD.nd rfl (.inl rfl) pe_int)
      (pss_cons (ps_for PassesOwn.never rfl (pi_list (pe_slice sl_list (pv 0) po_none (po_some pe_int))) (pg_name (i := 2) scD.nd rfl (.inl rfl))
        (pss_one (ps_set (i := 1) scD.nd rfl (.inl rfl) (pe_op op_mod (pe_callTy call_int1 (by rfl) mi (by decide +kernel) (pa_cons (pe_op op_add (pe_op op_add (pe_op op_mul (pv 1) pe_int)
          (pe_op op_mod (pe_callTy call_int1 (by rfl) mi (by decide +kernel) (pa_cons (pv 2) pa_nil)) pe_int)) pe_int) pa_nil)) pe_int))))
      (pss_one (ps_ret (pe_disp (pps_cons pe_str (pe_revL (pe_lc (own := [("_law_cell", 2)]) (g := gName 2) (by rfl) scD.nd (pi_list (pe_slice sl_list (pv 0) po_none (po_some pe_int)))
          (blkOk_by (own := [("_law_cell", 2)]) (N := ["_law_script", "_law_mixed", "_law_cell"]) (sc := defScope sDeck) (by decide +kernel))
          (fun _ _ _ _ _ => pg_name (i := 2) scD.nd rfl (Or.inl rfl)) (fun _ _ _ _ _ => pts_one (pt_cmpR op_ge (pv 2) (pe_op op_pow pe_int pe_int) (nomark _))) (fun _ _ _ _ _ => pv 2)))
        (pps_cons pe_str (pv 1) (pps_cons pe_str pe_int pps_nil))) (by rfl) (by rfl) (fun z => by cases z) (by decide))))), ?_⟩
    obtain ⟨L, eL⟩ : ∃ L, L = cutV (ns.map V.int) none (some 63) := ⟨_, rfl⟩
    have ec : L = (ns.take 63).map V.int := by
      rw [eL]
      unfold cutV
      rw [HT.sIx_none, List.drop_zero, Nat.sub_zero, List.length_map, show ((63 : Int)) = ((63 : Nat) : Int) from rfl, HT.sIx_nat, ← List.map_take]
      congr 1
      rw [List.take_eq_take_iff]
      omega
    have hL63 : L.length ≤ 63 := by
      rw [ec, List.length_map, List.length_take]
      omega
    refine ⟨_, rfl, 63, rfl, a, _, rfl, hS, fun p hp => ⟨p, rfl, ⟨_, SqL.of upd_same⟩, ?_⟩⟩
    rw [← eL]
    have s1 : Same H (upd H p (.lst L)) := same_new hp
    refine for_list (K := K) (a := p) (xs := L) (fun i σ H' => ∃ (m : Int) (v : Option V), σ = [some (.ref a), some (.int m), v] ∧ 0 ≤ m ∧ m < 2147483648 ∧ H' = upd H p (.lst L))
      ⟨_, none, rfl, by decide, by decide, rfl⟩ (fun i σ H' _ ⟨_, _, _, _, _, e⟩ => by rw [e]; exact SqL.of upd_same) ?_ ?_
    · rintro i y σ H' hi ⟨m, v, rfl, h0, h1, rfl⟩
      rw [ec, List.getElem?_map] at hi
      obtain ⟨z, _, rfl⟩ := Option.map_eq_some_iff.mp hi
      refine ⟨_, rfl, _, _, rfl, rfl, .inr ⟨by decide, by decide⟩, _, rfl, .inl ⟨_, rfl, _, _, rfl, rfl, (by show (0 : Int) < 2147483629; decide), _, _, rfl, rfl, _, _, rfl, rfl, .inl ⟨_, rfl, _, _, rfl, rfl, (by show (0 : Int) < 2147483587; decide), ?_⟩⟩⟩
      refine ⟨_, _, rfl, Int.emod_nonneg _ (by decide), ?_, rfl⟩
      refine Int.lt_trans (Int.emod_lt_of_pos _ (by decide)) (by decide)
    · rintro σ H' ⟨m, v, rfl, h0, h1, rfl⟩
      intro d hd
      have hd0 : H d = none := s1.free hd
      have s2 : Same H (upd (upd H p (.lst L)) d (.dK [])) := s1.trans (same_new hd)
      refine ⟨_, rfl, 63, rfl, a, _, rfl, s2.seq hS, fun q hq => ⟨q, rfl, ⟨_, SqL.of upd_same⟩, fun D hD => ?_⟩⟩
      rw [← eL] at hD ⊢
      have ndq : d ≠ q := ne_of_none upd_same hq
      have s3 := s2.trans (same_new (o := .lst L) hq)
      have ndD : d ≠ D := ne_of_none (by rw [upd_ne ndq]; exact upd_same) hD
      have nqD : q ≠ D := ne_of_none upd_same hD
      obtain ⟨H4, e4⟩ : ∃ H4, H4 = upd (upd (upd H p (.lst L)) d (.dK [])) q (.lst L) := ⟨_, rfl⟩
      rw [← e4] at hD s3 ⊢
      have hq4 : H4 q = some (.lst L) := by rw [e4]; exact upd_same
      have hd4 : H4 d = some (.dK []) := by rw [e4, upd_ne ndq]; exact upd_same
      refine lc_list (K := K) (a := q) (xs := L) (fun i H' => ∃ gs : List Int, gs.length ≤ i ∧ H' = upd H4 D (.lst (gs.map V.int))) ⟨[], Nat.le_refl _, rfl⟩
        (fun i H' _ ⟨_, _, e⟩ => by rw [e]; exact SqL.of (by rw [upd_ne nqD]; exact hq4)) ?_ ?_
      · rintro i y H' hi ⟨gs, hg, rfl⟩
        have hil : i < L.length := (List.getElem?_eq_some_iff.mp hi).1
        rw [ec, List.getElem?_map] at hi
        obtain ⟨z, _, rfl⟩ := Option.map_eq_some_iff.mp hi
        refine ⟨rfl, _, rfl, _, _, rfl, rfl, ⟨by decide, by decide, by decide⟩, _, _, rfl, rfl, _, rfl, ?_⟩
        refine ite2 (fun _ => ?_) (fun _ => ?_)
        · refine ⟨_, rfl, _, upd_same, ?_, gs ++ [z], ?_, ?_⟩
          · rw [List.length_map]
            exact Nat.lt_of_le_of_lt (show gs.length ≤ 63 by omega) (by decide)
          · rw [List.length_append]
            show gs.length + 1 ≤ i + 1
            omega
          · rw [upd_upd, List.map_append]
            rfl
        · exact ⟨gs, Nat.le_succ_of_le hg, rfl⟩
      · rintro H' ⟨gs, hg, rfl⟩
        refine ⟨D, _, rfl, SqL.of upd_same, fun g hgn => ?_⟩
        have ngD : D ≠ g := ne_of_none upd_same hgn
        have ndg : d ≠ g := ne_of_none (by rw [upd_ne ndD]; exact hd4) hgn
        have s5 := (s3.trans (same_new (o := .lst (gs.map V.int)) hD)).trans (same_new (o := .lst (gs.map V.int).reverse) hgn)
        refine ⟨_, rfl, ?_, deckK g m 0, rfl, by show 3 ≤ 15; decide, ?_⟩
        · rw [upd_ne ndg, upd_ne ndD]
          exact hd4
        · rw [merge_deck]
          refine k d g _ ?_ hd0 ?_ ⟨⟨m, 0, upd_same, h0, h1, Int.le_refl _, Int.le_refl _⟩, gs.reverse, ?_, ?_⟩
          · intro b o e
            rw [upd_ne (ne_of_none e hd0)]
            exact s5 b o e
          · exact (s3.trans (same_new (o := .lst (gs.map V.int)) hD)).free hgn
          · rw [upd_ne ndg.symm, upd_same, List.map_reverse]
          · rw [List.length_reverse]
            omega
/-- the draw: some number below, the deck once more drawn, nothing else touched -/
def spDraw : Sp := fun vs H Q _ => ∃ (d g : Addr) (below n : Int), vs = [.ref d, .int below] ∧ DeckAt H d g n ∧ 0 < below ∧ below < 1000000 ∧ n < 1000000000 ∧
  ∀ (r : Int) (H' : Hp), 0 ≤ r → r < below → DeckAt H' d g (n + 1) → But d g H H' → Q (.int r) H'
theorem scW : FnScope ["_law_deck_here", "_law_below", "_law_cell", "_law_lap", "_law_mixed"] ["_law_deck_here", "_law_below"] (defScope sDraw) := ⟨rfl, rfl, rfl, by decide +kernel, rfl, by decide +kernel, by decide +kernel⟩
theorem val_great (g : Addr) (m l : Int) : valV (deckK g m l) (Sum.inr "great" : Key) = some (.ref g) := by rfl
theorem val_mixed (g : Addr) (m l : Int) : valV (deckK g m l) (Sum.inr "mixed" : Key) = some (.int m) := by rfl
theorem val_lap (g : Addr) (m l : Int) : valV (deckK g m l) (Sum.inr "lap" : Key) = some (.int l) := by rfl
theorem put_lap (g : Addr) (m l z : Int) : putK (deckK g m l) (Sum.inr "lap" : Key) (.int z) = deckK g m z := by rfl
theorem dp_ints {K : PySem.W.Frag} {H : Hp} : ∀ gs : List Int, DpAll K H (gs.map V.int) (gs.map PyData.int)
  | [] => .nil
  | i :: r => .cons (.int i) (dp_ints r)
theorem lay_ints : ∀ gs : List Int, PyData.canLayAll0 (gs.map PyData.int) = true ∧ PyData.depthAll (gs.map PyData.int) = 0
  | [] => ⟨rfl, rfl⟩
  | i :: r => by
    obtain ⟨h1, h2⟩ := lay_ints r
    refine ⟨?_, ?_⟩
    · show (PyData.canLay0 (.int i) && PyData.canLayAll0 (r.map PyData.int)) = true
      rw [h1] <;> rfl
    · show max (PyData.depth (.int i)) (PyData.depthAll (r.map PyData.int)) = 0
      rw [h2] <;> rfl
theorem shaped_ints (gs : List Int) : SeqAt.shaped (.list (gs.map PyData.int)) = true := by
  obtain ⟨h1, h2⟩ := lay_ints gs
  have e1 : PyData.canLay0 (.list (gs.map PyData.int)) = true := h1
  have e2 : PyData.depth (.list (gs.map PyData.int)) = 1 := by
    show PyData.depthAll (gs.map PyData.int) + 1 = 1
    rw [h2]
  unfold SeqAt.shaped
  rw [e1, e2]
  rfl
theorem eqv_nil (gs : List Int) : PyData.eqv (.list (gs.map PyData.int)) (.list []) = decide (gs = []) := by
  cases gs with
  | nil => rfl
  | cons i r => rfl
theorem ok_draw {f : Addr} {fd : FuncData} (F : Fun K "_law_draw" "_law_draw" sDraw f fd) (mi : mg "int" = none) : FnOk P w K mg base CX0 1 f fd ["_law_deck_here", "_law_below"] spDraw := by
  refine F.ok scW (fun vs H Q E h => ?_) (fun cdv A outer s H vs Q E hr h => ?_)
  · obtain ⟨d, g, b, n, rfl, _⟩ := h
    rfl
  · obtain ⟨d, g, b, n, rfl, D, hb0, hb1, hn, k⟩ := h
    have hu := hu_of hr
    refine ⟨_, pss_cons (ps_if (pt_cmpR (op_neD hr.units) (pe_dget hu (pv 0) pe_str (fun _ _ => rfl)) (pe_lst pa_nil) (nomark _))
        (pss_cons (ps_set (i := 2) scW.nd rfl (.inl rfl) (pe_callTy call_int1 (by rfl) mi (by decide +kernel) (pa_cons
            (pe_bm0 PySem.F.plainAttrs_list PySem.F.slot_list_pop PySem.F.type_list_pop mt_pop (pe_dget hu (pv 0) pe_str (fun _ _ => rfl))) pa_nil)))
        (pss_cons (ps_if (pt_cmpR op_ge (pv 2) (pv 1) (nomark _))
            (pss_one (ps_expr (pe_bm PySem.F.plainAttrs_list PySem.F.slot_list_append PySem.F.type_list_append mt_append (pe_dget hu (pv 0) pe_str (fun _ _ => rfl)) (pa_cons (pe_op op_fdiv (pv 2) (pv 1)) pa_nil)))) pss_nil)
        (pss_one (ps_ret (pe_op op_mod (pv 2) (pv 1)))))) pss_nil)
      (pss_cons (ps_set (i := 3) scW.nd rfl (.inl rfl) (pe_op op_add (pe_dget hu (pv 0) pe_str (fun _ _ => rfl)) pe_int))
      (pss_cons (ps_dput hu (pv 0) pe_str (pv 3) rfl)
      (pss_cons (ps_set (i := 4) scW.nd rfl (.inl rfl) (pe_op op_mod (pe_callTy call_int1 (by rfl) mi (by decide +kernel) (pa_cons (pe_op op_mul (pe_callTy call_int1 (by rfl) mi (by decide +kernel) (pa_cons
            (pe_op op_add (pe_op op_add (pe_dget hu (pv 0) pe_str (fun _ _ => rfl)) (pe_op op_mul (pe_op op_mul pe_int (pv 3)) (pv 3))) pe_int) pa_nil)) pe_int) pa_nil)) pe_int))
      (pss_cons (ps_set (i := 4) scW.nd rfl (.inl rfl) (pe_op op_mod (pe_callTy call_int1 (by rfl) mi (by decide +kernel) (pa_cons (pe_op op_add (pe_op op_mul (pv 4) (pv 4)) (pe_op op_mul pe_int (pv 3))) pa_nil)) pe_int))
      (pss_one (ps_ret (pe_op op_mod (pe_op op_fdiv (pe_op op_mod (pe_callTy call_int1 (by rfl) mi (by decide +kernel) (pa_cons (pe_op op_mul (pv 4) pe_int) pa_nil)) pe_int) pe_int) (pv 1)))))))), ?_⟩
    obtain ⟨⟨m, l, hd, hm0, hm1, hl0, hl1⟩, ⟨gs, hg, hg63⟩⟩ := id D
    have ndg : d ≠ g := D.ne
    refine ⟨_, rfl, _, _, rfl, DGet.k (k := Sum.inr "great") hd, ?_⟩
    refine ⟨Nat.zero_le _, fun p hp => ?_⟩
    have npd : d ≠ p := ne_of_none hd hp
    have npg : g ≠ p := ne_of_none hg hp
    have hd1 : upd H p (.lst []) d = some (.dK (deckK g m l)) := by rw [upd_ne npd]; exact hd
    have hg1 : upd H p (.lst []) g = some (.lst (gs.map V.int)) := by rw [upd_ne npg]; exact hg
    have b1 : But d g H (upd H p (.lst [])) := fun b o e _ _ => by rw [upd_ne (ne_of_none e hp)]; exact e
    refine ⟨.list (gs.map PyData.int), .list [], .lst (SqL.of hg1) (dp_ints gs), .lst (SqL.of upd_same) .nil, shaped_ints gs, by decide, _, rfl, ?_⟩
    rw [eqv_nil]
    by_cases hgs : gs = []
    · -- by the lap
      rw [decide_eq_true hgs]
      refine iteF ?_
      refine ⟨_, rfl, _, _, rfl, DGet.k (k := Sum.inr "lap") hd1, _, _, rfl, rfl, ?_⟩
      refine ⟨_, rfl, _, rfl, d, _, rfl, DPut.k (k := Sum.inr "lap") hd1 (by show 3 < sizeLine; decide), ?_⟩
      rw [put_lap]
      have hd2 : upd (upd H p (.lst [])) d (.dK (deckK g m (l + 1))) d = some (.dK (deckK g m (l + 1))) := upd_same
      refine ⟨_, rfl, _, _, rfl, DGet.k (k := Sum.inr "mixed") hd2, _, rfl, _, _, rfl, rfl, .inl ⟨by decide, by decide⟩, _, rfl, _, _, rfl, rfl, .inr ⟨by omega, by omega⟩, _, _, rfl, rfl, _, _, rfl, rfl,
        .inl ⟨_, rfl, _, _, rfl, rfl, .inr ⟨by decide, by decide⟩, .inl ⟨_, rfl, _, _, rfl, rfl, (by show (0 : Int) < 2147483647; decide), ?_⟩⟩⟩
      obtain ⟨M, eM⟩ : ∃ M, M = (m + 48271 * (l + 1) * (l + 1) + 43) * 39373 % 2147483647 := ⟨_, rfl⟩
      have M0 : 0 ≤ M := by rw [eM]; exact Int.emod_nonneg _ (by decide)
      have M1 : M < 2147483647 := by rw [eM]; exact Int.emod_lt_of_pos _ (by decide)
      dsimp only
      rw [← eM]
      refine ⟨_, rfl, _, rfl, _, _, rfl, rfl, .inl ⟨by omega, by omega⟩, _, rfl, _, _, rfl, rfl, .inl ⟨by decide, by decide⟩, _, _, rfl, rfl, .inl ⟨_, rfl, _, _, rfl, rfl, (by show (0 : Int) < 2147483579; decide), ?_⟩⟩
      refine ⟨_, rfl, _, _, rfl, rfl, .inr ⟨by decide, by decide⟩, .inl ⟨_, rfl, _, _, rfl, rfl, (by show (0 : Int) < 2147483563; decide), _, _, rfl, rfl, ⟨by decide, by decide⟩, _, rfl, _, _, rfl, rfl, hb0, ?_⟩⟩
      refine k _ _ (Int.emod_nonneg _ (by omega)) (Int.emod_lt_of_pos _ hb0) ⟨⟨m, l + 1, upd_same, hm0, hm1, by omega, by omega⟩, gs, ?_, hg63⟩ fun c o e h1 h2 => ?_
      · rw [upd_ne ndg.symm]
        exact hg1
      · rw [upd_ne h1]
        exact b1 c o e h1 h2
    · -- by a great number
      rw [decide_eq_false hgs]
      refine iteT ?_
      obtain ⟨hs, z, rfl⟩ : ∃ hs z, gs = hs ++ [z] := ⟨_, _, (List.dropLast_concat_getLast hgs).symm⟩
      have hlen : hs.length + 1 ≤ 63 := by simpa using hg63
      have eLast : ((hs ++ [z]).map V.int)[((hs ++ [z]).map V.int).length - 1]? = some (V.int z) := by simp
      have eDrop : ((hs ++ [z]).map V.int).dropLast = hs.map V.int := by simp
      refine ⟨_, rfl, _, _, rfl, DGet.k (k := Sum.inr "great") hd1, .inl ⟨rfl, _, SqL.of hg1⟩, g, _, _, rfl, rfl, hg1, eLast, .inl ⟨_, rfl, ?_⟩⟩
      rw [eDrop]
      refine ⟨_, rfl, _, rfl, _, _, rfl, rfl, _, rfl, ?_⟩
      have hd2 : upd (upd H p (.lst [])) g (.lst (hs.map V.int)) d = some (.dK (deckK g m l)) := by rw [upd_ne ndg]; exact hd1
      have b2 : But d g H (upd (upd H p (.lst [])) g (.lst (hs.map V.int))) := fun c o e h1 h2 => by rw [upd_ne h2]; exact b1 c o e h1 h2
      refine ite2 (fun _ => ?_) (fun _ => ?_)
      · refine ⟨_, rfl, _, _, rfl, DGet.k (k := Sum.inr "great") hd2, .inl ⟨rfl, _, SqL.of upd_same⟩, _, rfl, _, rfl, _, _, rfl, rfl, ⟨hb0, by omega⟩, g, _, _, rfl, rfl, upd_same, ?_, ?_⟩
        · rw [List.length_map]
          exact Nat.lt_of_le_of_lt (show hs.length ≤ 63 by omega) (by decide)
        refine ⟨_, rfl, _, rfl, _, _, rfl, rfl, hb0, ?_⟩
        refine k _ _ (Int.emod_nonneg _ (by omega)) (Int.emod_lt_of_pos _ hb0) ⟨⟨m, l, ?_, hm0, hm1, hl0, by omega⟩, hs ++ [z / b], ?_, by simpa using hlen⟩ fun c o e h1 h2 => ?_
        · rw [upd_ne ndg]
          exact hd2
        · rw [upd_same, List.map_append]
          rfl
        · rw [upd_ne h2]
          exact b2 c o e h1 h2
      · refine ⟨_, rfl, _, rfl, _, _, rfl, rfl, hb0, ?_⟩
        exact k _ _ (Int.emod_nonneg _ (by omega)) (Int.emod_lt_of_pos _ hb0) ⟨⟨m, l, hd2, hm0, hm1, hl0, by omega⟩, hs, upd_same, by omega⟩ b2
/-- a pick from a list of values: one of them -/
def spPick (K : PySem.W.Frag) : Sp := fun vs H Q _ => ∃ (d g a : Addr) (n : Int) (xs : List V), vs = [.ref d, .ref a] ∧ DeckAt H d g n ∧ n < 1000000000 ∧ SqL K H a xs ∧ 0 < xs.length ∧ xs.length < 1000000 ∧ a ≠ g ∧
  ∀ (i : Nat) (v : V) (H' : Hp), xs[i]? = some v → DeckAt H' d g (n + 1) → But d g H H' → Q v H'
theorem scK : FnScope ["_law_deck_here", "_law_menu"] ["_law_deck_here", "_law_menu"] (defScope sPick) := ⟨rfl, rfl, rfl, by decide +kernel, rfl, by decide +kernel, by decide +kernel⟩
theorem But.seq {d g a : Addr} {n : Int} {K : PySem.W.Frag} {H H' : Hp} {xs : List V} (e : But d g H H') (D : DeckAt H d g n) (ng : a ≠ g) (h : SqL K H a xs) : SqL K H' a xs := by
  obtain ⟨m, l, hd, _⟩ := D.dk
  rcases h with (h | ⟨o, h⟩) | h
  · exact .inl (.inl (e _ _ h (ne_of h hd (by intro z; cases z)) ng))
  · exact .inl (.inr ⟨o, e _ _ h (ne_of h hd (by intro z; cases z)) ng⟩)
  · exact .inr h
theorem ok_pick {f fD : Addr} {fd fdD : FuncData} (F : Fun K "_law_pick" "_law_pick" sPick f fd) (FD : Fun K "_law_draw" "_law_draw" sDraw fD fdD) (gD : mg "_law_draw" = some (.ref fD)) (bD : Binds K fdD ["_law_deck_here", "_law_below"] []) (mi : mg "int" = none) (ml : mg "len" = none) :
    FnOk P w K mg base CX0 2 f fd ["_law_deck_here", "_law_menu"] (spPick K) := by
  have GD : FnOk P w K mg base CX0 1 fD fdD ["_law_deck_here", "_law_below"] spDraw := ok_draw FD mi
  refine F.ok scK (fun vs H Q E h => ?_) (fun cdv A outer s H vs Q E hr h => ?_)
  · obtain ⟨d, g, a, n, xs, rfl, _⟩ := h
    rfl
  · obtain ⟨d, g, a, n, xs, rfl, D, hn, hS, h0, h1, ng, k⟩ := h
    refine ⟨_, pss_one (ps_ret (pe_ix ix_list (pv 1) (pe_call GD hr rfl gD FD.kp bD .nil pass0 (pa_cons (pv 0) (pa_cons (pe_callB call_len_seq (by rfl) ml PySem.boot_len (pa_cons (pv 1) pa_nil)) pa_nil))) (fun _ _ => rfl))), ?_⟩
    refine ⟨_, rfl, _, rfl, _, rfl, a, _, rfl, .inl hS, d, g, _, n, rfl, D, by omega, by omega, hn, fun r H' r0 r1 D' bt => ?_⟩
    obtain ⟨i, rfl⟩ : ∃ i : Nat, r = (i : Int) := ⟨r.toNat, by omega⟩
    have hi : i < xs.length := by omega
    have hv : xs[i]? = some xs[i] := List.getElem?_eq_getElem hi
    exact ⟨a, xs, _, xs[i], rfl, rfl, bt.seq D ng hS, atI_nat hv, k i _ H' hv D' bt⟩
end
end Vk
set_option Elab.async false
set_option linter.all false
set_option maxRecDepth 100000
set_option maxHeartbeats 4000000
namespace Vk
open PySem PySem.Spec PyProof.Rows L2 PySem.Vx
abbrev sMade : Stmt := top 16
abbrev sKept : Stmt := top 17
abbrev sKinds : Stmt := top 18
abbrev sCaught : Stmt := top 19
abbrev sUsual : Stmt := top 20
abbrev sLaw : Stmt := top 21
/-! ### e.f, isinstance(e, c): the class told where it is read -/
def tExK (K : PySem.W.Frag) (f : Str) (te : TE) : TE := fun σ H Q => te σ H fun y H1 => ∃ (C a dd : Addr) (fs : List (Str × V)) (v : V), EcK K C ∧ PySem.W.findIn K (.ref C) f = some none ∧ y = .ref a ∧ H1 a = some (ExV (.ref C) (some dd) a) ∧ H1 dd = some (.xd fs) ∧ fs.lookup f = some v ∧ Q v H1
theorem pe_exK {X : Cx} {e : Expr} {te : TE} {n : Str} {pos : Pos} (he : PE X e te) (hb : attributeBase e n X.env (eval e X.env) = eval e X.env := by rfl) : PE X (.Attribute e n pos) (tExK X.K n te) := by
  refine ⟨fun pins s σ H Q I h => attr_of hb (thn (he.run pins s σ H _ I h) fun u s1 ⟨y, H1, I1, ry, C, a, dd, fs, v, T, hno, ey, ha, hd, hl, q⟩ => ?_)⟩
  subst ey
  obtain rfl : u = Value.ref a := ry
  obtain ⟨oe, od, J, look⟩ := inst_of I1 ha fun d2 e2 => ⟨fs, by cases e2; exact hd⟩
  obtain ⟨o, rfl, lk⟩ := look dd fs rfl hd
  obtain ⟨w', hw, rw'⟩ := lk n v hl
  exact HandSPX.exc_get I1.kIn J T.ga T.gg T.ex (PySem.W.findObj_own T.hd hno rfl hw) (handed_of rw') ⟨v, H1, I1.tok _, rw', q⟩
def rIsK (K : PySem.W.Frag) : List V → Hp → VK → Prop := fun xs H Q => ∃ C, EcK K C ∧ rIsX K C xs H Q
theorem call_isK {X : Cx} : CallR X (.builtin "isinstance") (rIsK X.K) := by
  intro pins s σ H xs us Q I r h
  obtain ⟨C, T, h⟩ := h
  exact call_isX T pins s σ H xs us Q I r h
/-! ### the ten errors, by their numbers -/
def nmP (i : Nat) : Str := (["part", "part", "place", "letter", "witness", "levels", "letter"] : List Str).getD i ""
structure Txt (K : PySem.W.Frag) (mg : Str → Option Value) (C fI : Nat → Addr) (CL : Addr) : Prop where
  k : ∀ i, i < 10 → EcK K (C i)
  u : ∀ i, i < 7 → EcI K (C i) (fI i) (nmP i)
  b : ∀ i, 7 ≤ i → i < 10 → PySem.W.findIn K (.ref (C i)) "__init__" = some (some (.builtin "Exception.__init__"))
  kL : EcK K CL
  bL : PySem.W.findIn K (.ref CL) "__init__" = some (some (.builtin "Exception.__init__"))
  g0 : mg "BadMachine" = some (.ref (C 0))
  g1 : mg "BadExpression" = some (.ref (C 1))
  g2 : mg "BadText" = some (.ref (C 2))
  g3 : mg "SharedLetter" = some (.ref (C 3))
  g4 : mg "NotReversible" = some (.ref (C 4))
  g5 : mg "BadLevels" = some (.ref (C 5))
  g6 : mg "NoMove" = some (.ref (C 6))
  g7 : mg "NothingToUndo" = some (.ref (C 7))
  g8 : mg "InvalidCommand" = some (.ref (C 8))
  g9 : mg "NoMachine" = some (.ref (C 9))
  gL : mg "LoopError" = some (.ref CL)
  kit : ∀ i j, i < 10 → j < 10 → PySem.W.kitOne K (.ref (C i)) (.ref (C j)) = some (i == j)
  kitL : ∀ j, j < 10 → PySem.W.kitOne K (.ref CL) (.ref (C j)) = some false
  isL : ∀ i, i < 10 → PySem.W.kitOne K (.ref (C i)) (.ref CL) = some true
  isE : ∀ i, i < 10 → PySem.W.kitOne K (.ref (C i)) (.type "Exception") = some true
  us : ∀ i n, i < 10 → n ∈ ["ValueError", "LookupError", "TypeError", "ArithmeticError", "RuntimeError"] → PySem.W.kitOne K (.ref (C i)) (.type n) = some false
  ex : ∀ i, i < 10 → PySem.W.exmOne K (.ref (C i)) (.ref CL) = some true
  len : mg "len" = none
  int : mg "int" = none
  range : mg "range" = none
  isi : mg "isinstance" = none
  rep : mg "repr" = none
  eEx : mg "Exception" = none
  eVa : mg "ValueError" = none
  eLo : mg "LookupError" = none
  eTy : mg "TypeError" = none
  eAr : mg "ArithmeticError" = none
  eRu : mg "RuntimeError" = none
/-- an error of the i-th class at e, made of it -/
def ErrAt (C : Nat → Addr) (H : Hp) (i : Nat) (it : V) (e : Addr) : Prop := if i < 7 then ∃ d, H e = some (ExV (.ref (C i)) (some d) e) ∧ H d = some (.xd [(nmP i, it)]) else H e = some (ExV (.ref (C i)) none e)
theorem ErrAt.same {C : Nat → Addr} {H H' : Hp} {i : Nat} {it : V} {e : Addr} (h : ErrAt C H i it e) (s : Same H H') : ErrAt C H' i it e := by
  unfold ErrAt at h ⊢
  by_cases hi : i < 7
  · rw [if_pos hi] at h ⊢
    obtain ⟨d, h1, h2⟩ := h
    exact ⟨d, s _ _ h1, s _ _ h2⟩
  · rw [if_neg hi] at h ⊢
    exact s _ _ h
theorem ErrAt.look {C : Nat → Addr} {H : Hp} {i : Nat} {it : V} {e : Addr} (h : ErrAt C H i it e) : ∃ d, H e = some (ExV (.ref (C i)) d e) ∧ ∀ dd, d = some dd → ∃ fs, H dd = some (.xd fs) := by
  unfold ErrAt at h
  by_cases hi : i < 7
  · rw [if_pos hi] at h
    obtain ⟨d, h1, h2⟩ := h
    exact ⟨some d, h1, fun dd e => by cases e; exact ⟨_, h2⟩⟩
  · rw [if_neg hi] at h
    exact ⟨none, h, fun dd e => nomatch e⟩
def spMade (C : Nat → Addr) : Sp := fun vs H Q _ => ∃ (n : Nat) (it : V), vs = [.int (n : Int), it] ∧ n < 10 ∧
  ∀ (p e1 e2 : Addr) (H' : Hp), Same H H' → H p = none → H' p = some (.lst [.ref e1, .ref e2]) → ErrAt C H' n it e1 → ErrAt C H' n it e2 → Q (.ref p) H'
def spKept (C : Nat → Addr) : Sp := fun vs H Q _ => ∃ (n : Nat) (it : V) (e : Addr), vs = [.int (n : Int), .ref e] ∧ n < 10 ∧ ErrAt C H n it e ∧
  ∀ (p : Addr) (H' : Hp), Same H H' → H p = none → p ≠ sysModules → H' p = some (.lst (if n < 7 then [it] else [])) → Q (.ref p) H'
/-- the numbers of the classes that are told -/
def kindsOf (bs : List Bool) : List Int := ((List.range 10).filter fun j => bs.getD j false).map Int.ofNat
def spKinds (K : PySem.W.Frag) (Cs : Nat → Addr) : Sp := fun vs H Q _ => ∃ (e C : Addr) (d : Option Addr) (f : Nat → Bool), vs = [.ref e] ∧ EcK K C ∧ H e = some (ExV (.ref C) d e) ∧ (∀ dd, d = some dd → ∃ fs, H dd = some (.xd fs)) ∧
  (∀ j, j < 10 → PySem.W.kitOne K (.ref C) (.ref (Cs j)) = some (f j)) ∧
  ∀ (p : Addr) (H' : Hp), Same H H' → H p = none → p ≠ sysModules → H' p = some (.lst ((((List.range 10).filter f).map Int.ofNat).map V.int)) → Q (.ref p) H'
section
variable {P : Program} {w : World} {K : PySem.W.Frag} {mg : Str → Option Value} {base : Heap} {C fI : Nat → Addr} {CL : Addr}
theorem scM : FnScope ["_law_at", "_law_it", "_law_bare"] ["_law_at", "_law_it"] (defScope sMade) := ⟨rfl, rfl, rfl, by decide +kernel, rfl, by decide +kernel, by decide +kernel⟩
theorem made_two {H : Hp} {n : Nat} {v : V} {a d a2 d2 p : Addr} (hn : n < 7) (na : H a = none) (nd : H d = none) (ne : d ≠ a)
    (na2 : upd (upd H d (.xd [(nmP n, v)])) a (ExV (.ref (C n)) (some d) a) a2 = none) (nd2 : upd (upd H d (.xd [(nmP n, v)])) a (ExV (.ref (C n)) (some d) a) d2 = none) (ne2 : d2 ≠ a2)
    (hp : upd (upd (upd (upd H d (.xd [(nmP n, v)])) a (ExV (.ref (C n)) (some d) a)) d2 (.xd [(nmP n, v)])) a2 (ExV (.ref (C n)) (some d2) a2) p = none) :
    ∃ H', H' = upd (upd (upd (upd (upd H d (.xd [(nmP n, v)])) a (ExV (.ref (C n)) (some d) a)) d2 (.xd [(nmP n, v)])) a2 (ExV (.ref (C n)) (some d2) a2)) p (.lst [.ref a, .ref a2]) ∧
      Same H H' ∧ H p = none ∧ H' p = some (.lst [.ref a, .ref a2]) ∧ ErrAt C H' n v a ∧ ErrAt C H' n v a2 := by
  obtain ⟨H1, e1⟩ : ∃ H1, H1 = upd (upd H d (.xd [(nmP n, v)])) a (ExV (.ref (C n)) (some d) a) := ⟨_, rfl⟩
  have s1 : Same H H1 := fun b o q => by rw [e1, upd_ne (ne_of_none q na), upd_ne (ne_of_none q nd)]; exact q
  have a1 : H1 a = some (ExV (.ref (C n)) (some d) a) := by rw [e1]; exact upd_same
  have d1 : H1 d = some (.xd [(nmP n, v)]) := by rw [e1, upd_ne ne]; exact upd_same
  rw [← e1] at na2 nd2 hp ⊢
  obtain ⟨H2, e2⟩ : ∃ H2, H2 = upd (upd H1 d2 (.xd [(nmP n, v)])) a2 (ExV (.ref (C n)) (some d2) a2) := ⟨_, rfl⟩
  have s2 : Same H1 H2 := fun b o q => by rw [e2, upd_ne (ne_of_none q na2), upd_ne (ne_of_none q nd2)]; exact q
  have a2' : H2 a2 = some (ExV (.ref (C n)) (some d2) a2) := by rw [e2]; exact upd_same
  have d2' : H2 d2 = some (.xd [(nmP n, v)]) := by rw [e2, upd_ne ne2]; exact upd_same
  rw [← e2] at hp ⊢
  have s3 : Same H2 (upd H2 p (.lst [.ref a, .ref a2])) := same_new hp
  have f1 : ErrAt C H1 n v a := by
    unfold ErrAt
    rw [if_pos hn]
    exact ⟨d, a1, d1⟩
  have f2 : ErrAt C H2 n v a2 := by
    unfold ErrAt
    rw [if_pos hn]
    exact ⟨d2, a2', d2'⟩
  exact ⟨_, rfl, (s1.trans s2).trans s3, (s1.trans s2).free hp, upd_same, (f1.same s2).same s3, f2.same s3⟩
theorem made_bare {H : Hp} {n : Nat} {v : V} {a1 a2 p : Addr} (hn : 7 ≤ n) (n1 : H a1 = none) (n2 : upd H a1 (ExV (.ref (C n)) none a1) a2 = none) (hp : upd (upd H a1 (ExV (.ref (C n)) none a1)) a2 (ExV (.ref (C n)) none a2) p = none) :
    ∃ H', H' = upd (upd (upd H a1 (ExV (.ref (C n)) none a1)) a2 (ExV (.ref (C n)) none a2)) p (.lst [.ref a1, .ref a2]) ∧ Same H H' ∧ H p = none ∧ H' p = some (.lst [.ref a1, .ref a2]) ∧ ErrAt C H' n v a1 ∧ ErrAt C H' n v a2 := by
  have s1 := same_new (o := ExV (.ref (C n)) none a1) n1
  have s2 := same_new (o := ExV (.ref (C n)) none a2) n2
  have s3 := same_new (o := .lst [.ref a1, .ref a2]) hp
  have lt : ¬ n < 7 := by omega
  have f1 : ErrAt C (upd H a1 (ExV (.ref (C n)) none a1)) n v a1 := by
    unfold ErrAt
    rw [if_neg lt]
    exact upd_same
  have f2 : ErrAt C (upd (upd H a1 (ExV (.ref (C n)) none a1)) a2 (ExV (.ref (C n)) none a2)) n v a2 := by
    unfold ErrAt
    rw [if_neg lt]
    exact upd_same
  exact ⟨_, rfl, (s1.trans s2).trans s3, (s1.trans s2).free hp, upd_same, (f1.same s2).same s3, f2.same s3⟩
theorem ok_made {f : Addr} {fd : FuncData} (F : Fun K "_law_made" "_law_made" sMade f fd) (T : Txt K mg C fI CL) : FnOk P w K mg base CX0 2 f fd ["_law_at", "_law_it"] (spMade C) := by
  refine F.ok scM (fun vs H Q E h => ?_) (fun cdv A outer s H vs Q E hr h => ?_)
  · obtain ⟨n, it, rfl, _⟩ := h
    rfl
  · obtain ⟨n, it, rfl, hn, k⟩ := h
    refine ⟨_, (pss_cons (ps_if (pt_cmpR op_eq (pv 0) pe_int (nomark _)) (pss_one (ps_ret (pe_lst (pa_cons (pe_mkE (T.k 0 (by decide)) (T.u 0 (by decide)) T.g0 hr (pa_cons (pv 1) pa_nil)) (pa_cons (pe_mkEk (T.k 0 (by decide)) (T.u 0 (by decide)) T.g0 hr (pv 1)) pa_nil))))) pss_nil)
        (pss_cons (ps_if (pt_cmpR op_eq (pv 0) pe_int (nomark _)) (pss_one (ps_ret (pe_lst (pa_cons (pe_mkE (T.k 1 (by decide)) (T.u 1 (by decide)) T.g1 hr (pa_cons (pv 1) pa_nil)) (pa_cons (pe_mkEk (T.k 1 (by decide)) (T.u 1 (by decide)) T.g1 hr (pv 1)) pa_nil))))) pss_nil)
        (pss_cons (ps_if (pt_cmpR op_eq (pv 0) pe_int (nomark _)) (pss_one (ps_ret (pe_lst (pa_cons (pe_mkE (T.k 2 (by decide)) (T.u 2 (by decide)) T.g2 hr (pa_cons (pv 1) pa_nil)) (pa_cons (pe_mkEk (T.k 2 (by decide)) (T.u 2 (by decide)) T.g2 hr (pv 1)) pa_nil))))) pss_nil)
        (pss_cons (ps_if (pt_cmpR op_eq (pv 0) pe_int (nomark _)) (pss_one (ps_ret (pe_lst (pa_cons (pe_mkE (T.k 3 (by decide)) (T.u 3 (by decide)) T.g3 hr (pa_cons (pv 1) pa_nil)) (pa_cons (pe_mkEk (T.k 3 (by decide)) (T.u 3 (by decide)) T.g3 hr (pv 1)) pa_nil))))) pss_nil)
        (pss_cons (ps_if (pt_cmpR op_eq (pv 0) pe_int (nomark _)) (pss_one (ps_ret (pe_lst (pa_cons (pe_mkE (T.k 4 (by decide)) (T.u 4 (by decide)) T.g4 hr (pa_cons (pv 1) pa_nil)) (pa_cons (pe_mkEk (T.k 4 (by decide)) (T.u 4 (by decide)) T.g4 hr (pv 1)) pa_nil))))) pss_nil)
        (pss_cons (ps_if (pt_cmpR op_eq (pv 0) pe_int (nomark _)) (pss_one (ps_ret (pe_lst (pa_cons (pe_mkE (T.k 5 (by decide)) (T.u 5 (by decide)) T.g5 hr (pa_cons (pv 1) pa_nil)) (pa_cons (pe_mkEk (T.k 5 (by decide)) (T.u 5 (by decide)) T.g5 hr (pv 1)) pa_nil))))) pss_nil)
        (pss_cons (ps_if (pt_cmpR op_eq (pv 0) pe_int (nomark _)) (pss_one (ps_ret (pe_lst (pa_cons (pe_mkE (T.k 6 (by decide)) (T.u 6 (by decide)) T.g6 hr (pa_cons (pv 1) pa_nil)) (pa_cons (pe_mkEk (T.k 6 (by decide)) (T.u 6 (by decide)) T.g6 hr (pv 1)) pa_nil))))) pss_nil)
        (pss_cons (ps_set (i := 2) scM.nd rfl (.inl rfl) (pe_lst (pa_cons (pe_lst (pa_cons (pe_mk0 (T.k 7 (by decide)) (T.b 7 (by decide) (by decide)) T.g7) (pa_cons (pe_mk0 (T.k 7 (by decide)) (T.b 7 (by decide) (by decide)) T.g7) pa_nil))) (pa_cons (pe_lst (pa_cons (pe_mk0 (T.k 8 (by decide)) (T.b 8 (by decide) (by decide)) T.g8) (pa_cons (pe_mk0 (T.k 8 (by decide)) (T.b 8 (by decide) (by decide)) T.g8) pa_nil))) (pa_cons (pe_lst (pa_cons (pe_mk0 (T.k 9 (by decide)) (T.b 9 (by decide) (by decide)) T.g9) (pa_cons (pe_mk0 (T.k 9 (by decide)) (T.b 9 (by decide) (by decide)) T.g9) pa_nil))) pa_nil)))))
        (pss_one (ps_ret (pe_ix ix_list (pv 2) (pe_op op_sub (pv 0) pe_int) (fun _ _ => rfl)))))))))))), ?_⟩
    refine ⟨_, rfl, rfl, _, rfl, ?_⟩
    refine ite2 (fun c => ?_) (fun c0 => ?_)
    · obtain rfl : n = 0 := by
        have z : (n : Int) = 0 := V.int.inj (of_decide_eq_true c)
        omega
      refine ⟨_, rfl, it, rfl, fun a d na nd ne => ⟨_, rfl, it, rfl, fun a2 d2 na2 nd2 ne2 => ⟨by show 2 ≤ sizeLine; decide, fun p hp => ?_⟩⟩⟩
      obtain ⟨H', e, q1, q2, q3, q4, q5⟩ := made_two (C := C) (n := 0) (by decide) na nd ne na2 nd2 ne2 hp
      exact e ▸ k p a a2 H' q1 q2 q3 q4 q5
    refine ⟨_, rfl, rfl, _, rfl, ?_⟩
    refine ite2 (fun c => ?_) (fun c1 => ?_)
    · obtain rfl : n = 1 := by
        have z : (n : Int) = 1 := V.int.inj (of_decide_eq_true c)
        omega
      refine ⟨_, rfl, it, rfl, fun a d na nd ne => ⟨_, rfl, it, rfl, fun a2 d2 na2 nd2 ne2 => ⟨by show 2 ≤ sizeLine; decide, fun p hp => ?_⟩⟩⟩
      obtain ⟨H', e, q1, q2, q3, q4, q5⟩ := made_two (C := C) (n := 1) (by decide) na nd ne na2 nd2 ne2 hp
      exact e ▸ k p a a2 H' q1 q2 q3 q4 q5
    refine ⟨_, rfl, rfl, _, rfl, ?_⟩
    refine ite2 (fun c => ?_) (fun c2 => ?_)
    · obtain rfl : n = 2 := by
        have z : (n : Int) = 2 := V.int.inj (of_decide_eq_true c)
        omega
      refine ⟨_, rfl, it, rfl, fun a d na nd ne => ⟨_, rfl, it, rfl, fun a2 d2 na2 nd2 ne2 => ⟨by show 2 ≤ sizeLine; decide, fun p hp => ?_⟩⟩⟩
      obtain ⟨H', e, q1, q2, q3, q4, q5⟩ := made_two (C := C) (n := 2) (by decide) na nd ne na2 nd2 ne2 hp
      exact e ▸ k p a a2 H' q1 q2 q3 q4 q5
    refine ⟨_, rfl, rfl, _, rfl, ?_⟩
    refine ite2 (fun c => ?_) (fun c3 => ?_)
    · obtain rfl : n = 3 := by
        have z : (n : Int) = 3 := V.int.inj (of_decide_eq_true c)
        omega
      refine ⟨_, rfl, it, rfl, fun a d na nd ne => ⟨_, rfl, it, rfl, fun a2 d2 na2 nd2 ne2 => ⟨by show 2 ≤ sizeLine; decide, fun p hp => ?_⟩⟩⟩
      obtain ⟨H', e, q1, q2, q3, q4, q5⟩ := made_two (C := C) (n := 3) (by decide) na nd ne na2 nd2 ne2 hp
      exact e ▸ k p a a2 H' q1 q2 q3 q4 q5
    refine ⟨_, rfl, rfl, _, rfl, ?_⟩
    refine ite2 (fun c => ?_) (fun c4 => ?_)
    · obtain rfl : n = 4 := by
        have z : (n : Int) = 4 := V.int.inj (of_decide_eq_true c)
        omega
      refine ⟨_, rfl, it, rfl, fun a d na nd ne => ⟨_, rfl, it, rfl, fun a2 d2 na2 nd2 ne2 => ⟨by show 2 ≤ sizeLine; decide, fun p hp => ?_⟩⟩⟩
      obtain ⟨H', e, q1, q2, q3, q4, q5⟩ := made_two (C := C) (n := 4) (by decide) na nd ne na2 nd2 ne2 hp
      exact e ▸ k p a a2 H' q1 q2 q3 q4 q5
    refine ⟨_, rfl, rfl, _, rfl, ?_⟩
    refine ite2 (fun c => ?_) (fun c5 => ?_)
    · obtain rfl : n = 5 := by
        have z : (n : Int) = 5 := V.int.inj (of_decide_eq_true c)
        omega
      refine ⟨_, rfl, it, rfl, fun a d na nd ne => ⟨_, rfl, it, rfl, fun a2 d2 na2 nd2 ne2 => ⟨by show 2 ≤ sizeLine; decide, fun p hp => ?_⟩⟩⟩
      obtain ⟨H', e, q1, q2, q3, q4, q5⟩ := made_two (C := C) (n := 5) (by decide) na nd ne na2 nd2 ne2 hp
      exact e ▸ k p a a2 H' q1 q2 q3 q4 q5
    refine ⟨_, rfl, rfl, _, rfl, ?_⟩
    refine ite2 (fun c => ?_) (fun c6 => ?_)
    · obtain rfl : n = 6 := by
        have z : (n : Int) = 6 := V.int.inj (of_decide_eq_true c)
        omega
      refine ⟨_, rfl, it, rfl, fun a d na nd ne => ⟨_, rfl, it, rfl, fun a2 d2 na2 nd2 ne2 => ⟨by show 2 ≤ sizeLine; decide, fun p hp => ?_⟩⟩⟩
      obtain ⟨H', e, q1, q2, q3, q4, q5⟩ := made_two (C := C) (n := 6) (by decide) na nd ne na2 nd2 ne2 hp
      exact e ▸ k p a a2 H' q1 q2 q3 q4 q5
    have ge : 7 ≤ n := by
      have m0 : n ≠ 0 := fun e => c0 (by rw [e]; rfl)
      have m1 : n ≠ 1 := fun e => c1 (by rw [e]; rfl)
      have m2 : n ≠ 2 := fun e => c2 (by rw [e]; rfl)
      have m3 : n ≠ 3 := fun e => c3 (by rw [e]; rfl)
      have m4 : n ≠ 4 := fun e => c4 (by rw [e]; rfl)
      have m5 : n ≠ 5 := fun e => c5 (by rw [e]; rfl)
      have m6 : n ≠ 6 := fun e => c6 (by rw [e]; rfl)
      omega
    intro a7 x7 b7 y7
    refine ⟨by show 2 ≤ sizeLine; decide, fun p7 z7 => ?_⟩
    obtain ⟨H7, e7, s7, f7, l7, u7, v7⟩ := made_bare (C := C) (n := 7) (by decide) x7 y7 z7
    rw [← e7]
    intro a8 x8 b8 y8
    refine ⟨by show 2 ≤ sizeLine; decide, fun p8 z8 => ?_⟩
    obtain ⟨H8, e8, s8, f8, l8, u8, v8⟩ := made_bare (C := C) (n := 8) (by decide) x8 y8 z8
    rw [← e8]
    intro a9 x9 b9 y9
    refine ⟨by show 2 ≤ sizeLine; decide, fun p9 z9 => ?_⟩
    obtain ⟨H9, e9, s9, f9, l9, u9, v9⟩ := made_bare (C := C) (n := 9) (by decide) x9 y9 z9
    rw [← e9]
    refine ⟨by show 3 ≤ sizeLine; decide, fun q hq => ?_⟩
    refine ⟨_, rfl, _, rfl, _, _, rfl, rfl, ?_⟩
    have sq : Same H9 (upd H9 q (.lst [.ref p7, .ref p8, .ref p9])) := same_new hq
    have S7 : Same H (upd H9 q (.lst [.ref p7, .ref p8, .ref p9])) := ((s7.trans s8).trans s9).trans sq
    rcases (show n = 7 ∨ n = 8 ∨ n = 9 by omega) with rfl | rfl | rfl
    · refine ⟨q, _, 0, .ref p7, rfl, rfl, SqL.of upd_same, rfl, ?_⟩
      have S := (s8.trans s9).trans sq
      exact k p7 a7 b7 _ S7 f7 (S _ _ l7) (u7.same S) (v7.same S)
    · refine ⟨q, _, 1, .ref p8, rfl, rfl, SqL.of upd_same, rfl, ?_⟩
      have S := s9.trans sq
      exact k p8 a8 b8 _ S7 (s7.free f8) (S _ _ l8) (u8.same S) (v8.same S)
    · refine ⟨q, _, 2, .ref p9, rfl, rfl, SqL.of upd_same, rfl, ?_⟩
      exact k p9 a9 b9 _ S7 ((s7.trans s8).free f9) (sq _ _ l9) (u9.same sq) (v9.same sq)
theorem scP : FnScope ["_law_at", "_law_e"] ["_law_at", "_law_e"] (defScope sKept) := ⟨rfl, rfl, rfl, by decide +kernel, rfl, by decide +kernel, by decide +kernel⟩
theorem ok_kept {f : Addr} {fd : FuncData} (F : Fun K "_law_kept" "_law_kept" sKept f fd) (T : Txt K mg C fI CL) : FnOk P w K mg base CX0 1 f fd ["_law_at", "_law_e"] (spKept C) := by
  refine F.ok scP (fun vs H Q E h => ?_) (fun cdv A outer s H vs Q E hr h => ?_)
  · obtain ⟨n, it, e, rfl, _⟩ := h
    rfl
  · obtain ⟨n, it, e, rfl, hn, he, k⟩ := h
    refine ⟨_, (pss_cons (ps_if (pt_cmpR op_lt (pv 0) pe_int (nomark _)) (pss_one (ps_ret (pe_lstN (pa_cons (pe_exK (pv 1)) pa_nil)))) pss_nil)
        (pss_cons (ps_if (pt_cmpR op_lt (pv 0) pe_int (nomark _)) (pss_one (ps_ret (pe_lstN (pa_cons (pe_ifExp (pt_cmpR op_eq (pv 0) pe_int (nomark _)) (pe_exK (pv 1)) (pe_exK (pv 1))) pa_nil)))) pss_nil)
        (pss_cons (ps_if (pt_cmpR op_lt (pv 0) pe_int (nomark _)) (pss_one (ps_ret (pe_lstN (pa_cons (pe_ifExp (pt_cmpR op_eq (pv 0) pe_int (nomark _)) (pe_exK (pv 1)) (pe_exK (pv 1))) pa_nil)))) pss_nil)
        (pss_one (ps_ret (pe_ifExp (pt_cmpR op_eq (pv 0) pe_int (nomark _)) (pe_lstN (pa_cons (pe_exK (pv 1)) pa_nil)) (pe_lstN pa_nil))))))), ?_⟩
    have got : ∀ (hn7 : n < 7) {R : VK}, R it H → ∃ (C0 a dd : Addr) (fs : List (Str × V)) (v : V), EcK K C0 ∧ PySem.W.findIn K (.ref C0) (nmP n) = some none ∧ V.ref e = .ref a ∧ H a = some (ExV (.ref C0) (some dd) a) ∧ H dd = some (.xd fs) ∧ fs.lookup (nmP n) = some v ∧ R v H := by
      intro hn7 R hR
      unfold ErrAt at he
      rw [if_pos hn7] at he
      obtain ⟨d, h1, h2⟩ := he
      exact ⟨C n, e, d, _, it, T.k n (by omega), (T.u n hn7).noN, rfl, h1, h2, by rw [List.lookup_cons, beq_self_eq_true], hR⟩
    have one : ∀ (hn7 : n < 7) (p : Addr), H p = none → p ≠ sysModules → Q (.ref p) (upd H p (.lst [it])) := fun hn7 p hp np => k p _ (same_new hp) hp np (by rw [if_pos hn7]; exact upd_same)
    refine ⟨_, rfl, _, _, rfl, rfl, _, rfl, ?_⟩
    refine ite2 (fun c => ?_) (fun c => ?_)
    · have c : (n : Int) < 2 := of_decide_eq_true c
      have e0 : nmP n = "part" := by
        rcases (show n = 0 ∨ n = 1 by omega) with rfl | rfl <;> rfl
      exact ⟨_, rfl, e0 ▸ got (by omega) ⟨by show 1 ≤ sizeLine; decide, fun p hp np => one (by omega) p hp np⟩⟩
    have n2 : ¬ (n : Int) < 2 := fun z => c (decide_eq_true z)
    refine ⟨_, rfl, _, _, rfl, rfl, _, rfl, ?_⟩
    refine ite2 (fun c => ?_) (fun c => ?_)
    · have c : (n : Int) < 4 := of_decide_eq_true c
      refine ⟨_, rfl, rfl, _, rfl, ?_⟩
      refine ite2 (fun d => ?_) (fun d => ?_)
      · have d : (n : Int) = 2 := V.int.inj (of_decide_eq_true d)
        have e0 : nmP n = "place" := by
          rcases (show n = 2 by omega) with rfl <;> rfl
        exact ⟨_, rfl, e0 ▸ got (by omega) ⟨by show 1 ≤ sizeLine; decide, fun p hp np => one (by omega) p hp np⟩⟩
      · have d : ¬ (n : Int) = 2 := fun z => d (by rw [z]; rfl)
        have e0 : nmP n = "letter" := by
          rcases (show n = 3 by omega) with rfl <;> rfl
        exact ⟨_, rfl, e0 ▸ got (by omega) ⟨by show 1 ≤ sizeLine; decide, fun p hp np => one (by omega) p hp np⟩⟩
    have n4 : ¬ (n : Int) < 4 := fun z => c (decide_eq_true z)
    refine ⟨_, rfl, _, _, rfl, rfl, _, rfl, ?_⟩
    refine ite2 (fun c => ?_) (fun c => ?_)
    · have c : (n : Int) < 6 := of_decide_eq_true c
      refine ⟨_, rfl, rfl, _, rfl, ?_⟩
      refine ite2 (fun d => ?_) (fun d => ?_)
      · have d : (n : Int) = 4 := V.int.inj (of_decide_eq_true d)
        have e0 : nmP n = "witness" := by
          rcases (show n = 4 by omega) with rfl <;> rfl
        exact ⟨_, rfl, e0 ▸ got (by omega) ⟨by show 1 ≤ sizeLine; decide, fun p hp np => one (by omega) p hp np⟩⟩
      · have d : ¬ (n : Int) = 4 := fun z => d (by rw [z]; rfl)
        have e0 : nmP n = "levels" := by
          rcases (show n = 5 by omega) with rfl <;> rfl
        exact ⟨_, rfl, e0 ▸ got (by omega) ⟨by show 1 ≤ sizeLine; decide, fun p hp np => one (by omega) p hp np⟩⟩
    have n6 : ¬ (n : Int) < 6 := fun z => c (decide_eq_true z)
    refine ⟨_, rfl, rfl, _, rfl, ?_⟩
    refine ite2 (fun d => ?_) (fun d => ?_)
    · have d : (n : Int) = 6 := V.int.inj (of_decide_eq_true d)
      have e0 : nmP n = "letter" := by
        rcases (show n = 6 by omega) with rfl <;> rfl
      exact ⟨_, rfl, e0 ▸ got (by omega) ⟨by show 1 ≤ sizeLine; decide, fun p hp np => one (by omega) p hp np⟩⟩
    · have d : ¬ (n : Int) = 6 := fun z => d (by rw [z]; rfl)
      exact ⟨Nat.zero_le _, fun p hp np => k p _ (same_new hp) hp np (by rw [if_neg (show ¬ n < 7 by omega)]; exact upd_same)⟩
theorem scQ : FnScope ["_law_e", "_law_some", "_law_n"] ["_law_e"] (defScope sKinds) := ⟨rfl, rfl, rfl, by decide +kernel, rfl, by decide +kernel, by decide +kernel⟩
theorem rng10 (f : Nat → Bool) : (List.range 10).map f = [f 0, f 1, f 2, f 3, f 4, f 5, f 6, f 7, f 8, f 9] := rfl
theorem ok_kinds {f : Addr} {fd : FuncData} (F : Fun K "_law_kinds" "_law_kinds" sKinds f fd) (T : Txt K mg C fI CL) : FnOk P w K mg base CX0 1 f fd ["_law_e"] (spKinds K C) := by
  refine F.ok scQ (fun vs H Q E h => ?_) (fun cdv A outer s H vs Q E hr h => ?_)
  · obtain ⟨e, C0, d, g, rfl, _⟩ := h
    rfl
  · obtain ⟨e, C0, d, g, rfl, T0, he, hd, hk, k⟩ := h
    refine ⟨_, (pss_cons (ps_set (i := 1) scQ.nd rfl (.inr rfl) (pe_lst (pa_cons (pe_callB call_isK (by rfl) T.isi (by decide +kernel) (pa_cons (pv 0) (pa_cons (pe_glob (v := .ref (C 0)) (by rfl) T.g0 rfl) pa_nil))) (pa_cons (pe_callB call_isK (by rfl) T.isi (by decide +kernel) (pa_cons (pv 0) (pa_cons (pe_glob (v := .ref (C 1)) (by rfl) T.g1 rfl) pa_nil))) (pa_cons (pe_callB call_isK (by rfl) T.isi (by decide +kernel) (pa_cons (pv 0) (pa_cons (pe_glob (v := .ref (C 2)) (by rfl) T.g2 rfl) pa_nil))) pa_nil)))))
        (pss_cons (ps_set (i := 1) scQ.nd rfl (.inr rfl) (pe_op op_cat (pv 1) (pe_lst (pa_cons (pe_callB call_isK (by rfl) T.isi (by decide +kernel) (pa_cons (pv 0) (pa_cons (pe_glob (v := .ref (C 3)) (by rfl) T.g3 rfl) pa_nil))) (pa_cons (pe_callB call_isK (by rfl) T.isi (by decide +kernel) (pa_cons (pv 0) (pa_cons (pe_glob (v := .ref (C 4)) (by rfl) T.g4 rfl) pa_nil))) (pa_cons (pe_callB call_isK (by rfl) T.isi (by decide +kernel) (pa_cons (pv 0) (pa_cons (pe_glob (v := .ref (C 5)) (by rfl) T.g5 rfl) pa_nil))) pa_nil))))))
        (pss_cons (ps_expr (pe_bm PySem.F.plainAttrs_list PySem.F.slot_list_append PySem.F.type_list_append mt_append (pv 1) (pa_cons (pe_callB call_isK (by rfl) T.isi (by decide +kernel) (pa_cons (pv 0) (pa_cons (pe_glob (v := .ref (C 6)) (by rfl) T.g6 rfl) pa_nil))) pa_nil)))
        (pss_cons (ps_set (i := 1) scQ.nd rfl (.inr rfl) (pe_op op_cat (pv 1) (pe_lst (pa_cons (pe_callB call_isK (by rfl) T.isi (by decide +kernel) (pa_cons (pv 0) (pa_cons (pe_glob (v := .ref (C 7)) (by rfl) T.g7 rfl) pa_nil))) (pa_cons (pe_callB call_isK (by rfl) T.isi (by decide +kernel) (pa_cons (pv 0) (pa_cons (pe_glob (v := .ref (C 8)) (by rfl) T.g8 rfl) pa_nil))) (pa_cons (pe_callB call_isK (by rfl) T.isi (by decide +kernel) (pa_cons (pv 0) (pa_cons (pe_glob (v := .ref (C 9)) (by rfl) T.g9 rfl) pa_nil))) pa_nil))))))
        (pss_one (ps_ret (pe_lcN (own := [("_law_n", 2)]) (g := gName 2) (by rfl) scQ.nd (pi_range1 (by rfl) T.range (pa_cons pe_int pa_nil)) (blkOk_by (own := [("_law_n", 2)]) (N := ["_law_e", "_law_some", "_law_n"]) (sc := defScope sKinds) (by decide +kernel)) (fun _ _ _ _ _ => (pg_name (i := 2) scQ.nd rfl (.inl rfl))) (fun _ _ _ _ _ => (pts_one (pt_val (pe_ix (r := rIxL K) ix_list (pv 1) (pv 2) (fun _ _ => rfl))))) (fun _ _ _ _ _ => (pv 2))))))))), ?_⟩
    have ask : ∀ (j : Nat) (hj : j < 10) {H1 : Hp} (s1 : Same H H1) {R : VK}, R (.bl (g j)) H1 → rIsK K [.ref e, .ref (C j)] H1 R := fun j hj H1 s1 R hR =>
      ⟨C0, T0, e, d, .ref (C j), .ref (C j), g j, rfl, s1 _ _ he, fun dd z => let ⟨fs, q⟩ := hd dd z; ⟨fs, s1 _ _ q⟩, fun u r => r, hk j hj, hR⟩
    have S0 : Same H H := Same.refl H
    refine ⟨_, rfl, ask 0 (by decide) S0 ⟨_, rfl, ask 1 (by decide) S0 ⟨_, rfl, ask 2 (by decide) S0 ⟨by show 3 ≤ sizeLine; decide, fun p1 z1 => ?_⟩⟩⟩⟩
    have S1 : Same H _ := same_new (o := .lst [.bl (g 0), .bl (g 1), .bl (g 2)]) z1
    refine ⟨_, rfl, _, rfl, ask 3 (by decide) S1 ⟨_, rfl, ask 4 (by decide) S1 ⟨_, rfl, ask 5 (by decide) S1 ⟨by show 3 ≤ sizeLine; decide, fun p2 z2 => ?_⟩⟩⟩⟩
    have S2 := S1.trans (same_new (o := .lst [.bl (g 3), .bl (g 4), .bl (g 5)]) z2)
    refine ⟨p1, p2, _, _, rfl, rfl, (by rw [upd_ne (ne_of_none upd_same z2)]; exact upd_same), upd_same, (by show 6 ≤ sizeLine; decide), fun p3 z3 => ?_⟩
    have S3 := S2.trans (same_new (o := .lst ([.bl (g 0), .bl (g 1), .bl (g 2)] ++ [.bl (g 3), .bl (g 4), .bl (g 5)])) z3)
    have hp3 : H p3 = none := S2.free z3
    refine ⟨_, rfl, .inl ⟨rfl, _, SqL.of upd_same⟩, _, rfl, ask 6 (by decide) S3 ⟨p3, _, _, rfl, rfl, upd_same, (by show 6 < sizeLine; decide), ?_⟩⟩
    have S4 : Same H (upd _ p3 (.lst (([.bl (g 0), .bl (g 1), .bl (g 2)] ++ [.bl (g 3), .bl (g 4), .bl (g 5)]) ++ [.bl (g 6)]))) := fun b o q => by
      rw [upd_ne (ne_of_none q hp3)]
      exact S3 b o q
    refine ⟨_, rfl, _, rfl, ask 7 (by decide) S4 ⟨_, rfl, ask 8 (by decide) S4 ⟨_, rfl, ask 9 (by decide) S4 ⟨by show 3 ≤ sizeLine; decide, fun p5 z5 => ?_⟩⟩⟩⟩
    have S5 := S4.trans (same_new (o := .lst [.bl (g 7), .bl (g 8), .bl (g 9)]) z5)
    refine ⟨p3, p5, _, _, rfl, rfl, (by rw [upd_ne (ne_of_none upd_same z5)]; exact upd_same), upd_same, (by show 10 ≤ sizeLine; decide), fun p6 z6 => ?_⟩
    have S6 := S5.trans (same_new (o := .lst ((([.bl (g 0), .bl (g 1), .bl (g 2)] ++ [.bl (g 3), .bl (g 4), .bl (g 5)]) ++ [.bl (g 6)]) ++ [.bl (g 7), .bl (g 8), .bl (g 9)])) z6)
    refine ⟨10, rfl, by decide, by decide, fun D hD nD => ?_⟩
    have hDH : H D = none := S6.free hD
    have nD6 : p6 ≠ D := ne_of_none upd_same hD
    have hL : ∀ i : Nat, i < 10 → ((([V.bl (g 0), .bl (g 1), .bl (g 2)] ++ [.bl (g 3), .bl (g 4), .bl (g 5)]) ++ [.bl (g 6)]) ++ [.bl (g 7), .bl (g 8), .bl (g 9)])[i]? = some (.bl (g i)) := fun i hi =>
      match i, hi with
      | 0, _ => rfl
      | 1, _ => rfl
      | 2, _ => rfl
      | 3, _ => rfl
      | 4, _ => rfl
      | 5, _ => rfl
      | 6, _ => rfl
      | 7, _ => rfl
      | 8, _ => rfl
      | 9, _ => rfl
    have put : ∀ {H' : Hp} {o : HO}, Same H H' → Same H (upd H' D o) := fun {H' o} q b u e => by
      rw [upd_ne (ne_of_none e hDH)]
      exact q b u e
    refine lc_range (lo := 0) (n := 10) (fun i H' => Same H H' ∧ H' p6 = some (.lst ((([.bl (g 0), .bl (g 1), .bl (g 2)] ++ [.bl (g 3), .bl (g 4), .bl (g 5)]) ++ [.bl (g 6)]) ++ [.bl (g 7), .bl (g 8), .bl (g 9)])) ∧
      H' D = some (.lst ((((List.range i).filter g).map Int.ofNat).map V.int))) ⟨put S6, by rw [upd_ne nD6]; exact upd_same, upd_same⟩ ?_ ?_
    · rintro i H' hi ⟨q1, q2, q3⟩
      have cut : ((List.range i).filter g).length ≤ i := by
        have z := List.length_filter_le g (List.range i)
        rwa [List.length_range] at z
      refine ⟨rfl, _, rfl, _, rfl, p6, _, _, .bl (g i), rfl, rfl, SqL.of q2, (by rw [Int.zero_add]; exact atI_nat (hL i hi)), g i, rfl, ?_⟩
      refine ite2 (fun c => ?_) (fun c => ?_)
      · refine ⟨_, rfl, _, q3, ?_, put q1, by rw [upd_ne nD6]; exact q2, ?_⟩
        · rw [List.length_map, List.length_map]
          exact Nat.lt_of_le_of_lt (show _ ≤ 10 by omega) (by decide)
        · rw [upd_same, List.range_succ, List.filter_append, List.filter_cons, if_pos c, List.filter_nil, List.map_append, List.map_append]
          show some (HO.lst (_ ++ [V.int (0 + (i : Int))])) = some (HO.lst (_ ++ [V.int (i : Int)]))
          rw [Int.zero_add]
      · refine ⟨q1, q2, ?_⟩
        rw [List.range_succ, List.filter_append, List.filter_cons, if_neg c, List.filter_nil, List.append_nil]
        exact q3
    · rintro H' ⟨q1, _, q3⟩
      exact k D H' q1 hDH nD q3
theorem scU : FnScope ["_law_e", "_law_some"] ["_law_e"] (defScope sUsual) := ⟨rfl, rfl, rfl, by decide +kernel, rfl, by decide +kernel, by decide +kernel⟩
def spUsual (K : PySem.W.Frag) (Cs : Nat → Addr) : Sp := fun vs H Q _ => ∃ (e : Addr) (d : Option Addr) (n : Nat), vs = [.ref e] ∧ n < 10 ∧ H e = some (ExV (.ref (Cs n)) d e) ∧ (∀ dd, d = some dd → ∃ fs, H dd = some (.xd fs)) ∧
  ∀ H' : Hp, Same H H' → Q (.bl false) H'
theorem ok_usual {f : Addr} {fd : FuncData} (F : Fun K "_law_is_usual" "_law_is_usual" sUsual f fd) (T : Txt K mg C fI CL) : FnOk P w K mg base CX0 1 f fd ["_law_e"] (spUsual K C) := by
  refine F.ok scU (fun vs H Q E h => ?_) (fun cdv A outer s H vs Q E hr h => ?_)
  · obtain ⟨e, d, n, rfl, _⟩ := h
    rfl
  · obtain ⟨e, d, n, rfl, hn, he, hd, k⟩ := h
    refine ⟨_, (pss_cons (ps_set (i := 1) scU.nd rfl (.inl rfl) (pe_lst (pa_cons (pe_callB call_isK (by rfl) T.isi (by decide +kernel) (pa_cons (pv 0) (pa_cons (pe_bltn (v := .ty "ValueError") (by rfl) T.eVa (by decide +kernel) rfl) pa_nil))) (pa_cons (pe_callB call_isK (by rfl) T.isi (by decide +kernel) (pa_cons (pv 0) (pa_cons (pe_bltn (v := .ty "LookupError") (by rfl) T.eLo (by decide +kernel) rfl) pa_nil))) (pa_cons (pe_callB call_isK (by rfl) T.isi (by decide +kernel) (pa_cons (pv 0) (pa_cons (pe_bltn (v := .ty "TypeError") (by rfl) T.eTy (by decide +kernel) rfl) pa_nil))) pa_nil)))))
        (pss_one (ps_ret (pe_cmpR op_in_seq pe_bl (pe_op op_cat (pv 1) (pe_lst (pa_cons (pe_callB call_isK (by rfl) T.isi (by decide +kernel) (pa_cons (pv 0) (pa_cons (pe_bltn (v := .ty "ArithmeticError") (by rfl) T.eAr (by decide +kernel) rfl) pa_nil))) (pa_cons (pe_callB call_isK (by rfl) T.isi (by decide +kernel) (pa_cons (pv 0) (pa_cons (pe_bltn (v := .ty "RuntimeError") (by rfl) T.eRu (by decide +kernel) rfl) pa_nil))) pa_nil)))) (by rfl))))), ?_⟩
    have ask : ∀ (t : String) (ht : t ∈ ["ValueError", "LookupError", "TypeError", "ArithmeticError", "RuntimeError"]) {H1 : Hp} (s1 : Same H H1) {R : VK}, R (.bl false) H1 → rIsK K [.ref e, .ty t] H1 R := fun t ht H1 s1 R hR =>
      ⟨C n, T.k n hn, e, d, .ty t, .type t, false, rfl, s1 _ _ he, fun dd z => let ⟨fs, q⟩ := hd dd z; ⟨fs, s1 _ _ q⟩, fun u r => r, T.us n t hn ht, hR⟩
    have S0 : Same H H := Same.refl H
    refine ⟨_, rfl, ask "ValueError" (by decide) S0 ⟨_, rfl, ask "LookupError" (by decide) S0 ⟨_, rfl, ask "TypeError" (by decide) S0 ⟨by show 3 ≤ sizeLine; decide, fun p1 z1 => ?_⟩⟩⟩⟩
    have S1 : Same H _ := same_new (o := .lst [.bl false, .bl false, .bl false]) z1
    refine ⟨_, rfl, _, rfl, ask "ArithmeticError" (by decide) S1 ⟨_, rfl, ask "RuntimeError" (by decide) S1 ⟨by show 2 ≤ sizeLine; decide, fun p2 z2 => ?_⟩⟩⟩
    have S2 := S1.trans (same_new (o := .lst [.bl false, .bl false]) z2)
    refine ⟨p1, p2, _, _, rfl, rfl, (by rw [upd_ne (ne_of_none upd_same z2)]; exact upd_same), upd_same, (by show 5 ≤ sizeLine; decide), fun p3 z3 => ?_⟩
    have S3 := S2.trans (same_new (o := .lst ([.bl false, .bl false, .bl false] ++ [.bl false, .bl false])) z3)
    exact ⟨p3, _, rfl, .inl (SqL.of upd_same), rfl, rfl, k _ S3⟩
end
end Vk
set_option Elab.async false
set_option linter.all false
set_option maxRecDepth 100000
set_option maxHeartbeats 4000000
namespace Vk
open PySem PySem.Spec PyProof.Rows L2 PySem.Vx
section
variable {P : Program} {w : World} {K : PySem.W.Frag} {mg : Str → Option Value} {base : Heap} {C fI : Nat → Addr} {CL : Addr}
theorem scC : FnScope ["_law_at", "_law_it", "_law_found", "_law_e"] ["_law_at", "_law_it"] (defScope sCaught) := ⟨rfl, rfl, rfl, by decide +kernel, rfl, by decide +kernel, by decide +kernel⟩
def spCaught (C : Nat → Addr) : Sp := fun vs H Q _ => ∃ (n : Nat) (it : V), vs = [.int (n : Int), it] ∧ n < 10 ∧
  ∀ (p p1 p2 : Addr) (H' : Hp), Same H H' → p ≠ sysModules → p1 ≠ sysModules → p2 ≠ sysModules → H' p = some (.lst [.ref p1, .ref p2]) → H' p1 = some (.lst [.int (n : Int)]) → H' p2 = some (.lst (if n < 7 then [it] else [])) → Q (.ref p) H'
theorem kinds_one : ∀ n, n < 10 → ((List.range 10).filter (fun j => n == j)).map Int.ofNat = [(n : Int)] := by decide
theorem ok_caught {f fK fP : Addr} {fd fdK fdP : FuncData} (F : Fun K "_law_caught" "_law_caught" sCaught f fd) (T : Txt K mg C fI CL) (FK : Fun K "_law_kinds" "_law_kinds" sKinds fK fdK) (gK : mg "_law_kinds" = some (.ref fK)) (bK : Binds K fdK ["_law_e"] [])
    (FP : Fun K "_law_kept" "_law_kept" sKept fP fdP) (gP : mg "_law_kept" = some (.ref fP)) (bP : Binds K fdP ["_law_at", "_law_e"] []) : FnOk P w K mg base CX0 2 f fd ["_law_at", "_law_it"] (spCaught C) := by
  have GK : FnOk P w K mg base CX0 1 fK fdK ["_law_e"] (spKinds K C) := ok_kinds FK T
  have GP : FnOk P w K mg base CX0 1 fP fdP ["_law_at", "_law_e"] (spKept C) := ok_kept FP T
  refine F.ok scC (fun vs H Q E h => ?_) (fun cdv A outer s H vs Q E hr h => ?_)
  · obtain ⟨n, it, rfl, _⟩ := h
    rfl
  · obtain ⟨n, it, rfl, hn, k⟩ := h
    refine ⟨_, (pss_cons (ps_set (i := 2) scC.nd rfl (.inl rfl) pe_non)
        (pss_cons (ps_try_keep (i := 3) (Wout := fun _ _ _ _ => False) rfl rfl rfl scC.nd rfl rfl ⟨rfl, by decide, .inl T.gL⟩ takes0
        (fun W pn xe tk _ => (pss_cons (ps_if (pt_cmpR op_eq (pv 0) pe_int (nomark _)) (pss_one (ps_raise rfl tk (pmk_E (T.k 0 (by decide)) (T.u 0 (by decide)) T.g0 hr (pa_cons (pv 1) pa_nil)))) pss_nil)
        (pss_cons (ps_if (pt_cmpR op_eq (pv 0) pe_int (nomark _)) (pss_one (ps_raise rfl tk (pmk_E (T.k 1 (by decide)) (T.u 1 (by decide)) T.g1 hr (pa_cons (pv 1) pa_nil)))) pss_nil)
        (pss_cons (ps_if (pt_cmpR op_eq (pv 0) pe_int (nomark _)) (pss_one (ps_raise rfl tk (pmk_E (T.k 2 (by decide)) (T.u 2 (by decide)) T.g2 hr (pa_cons (pv 1) pa_nil)))) pss_nil)
        (pss_cons (ps_if (pt_cmpR op_eq (pv 0) pe_int (nomark _)) (pss_one (ps_raise rfl tk (pmk_E (T.k 3 (by decide)) (T.u 3 (by decide)) T.g3 hr (pa_cons (pv 1) pa_nil)))) pss_nil)
        (pss_cons (ps_if (pt_cmpR op_eq (pv 0) pe_int (nomark _)) (pss_one (ps_raise rfl tk (pmk_E (T.k 4 (by decide)) (T.u 4 (by decide)) T.g4 hr (pa_cons (pv 1) pa_nil)))) pss_nil)
        (pss_cons (ps_if (pt_cmpR op_eq (pv 0) pe_int (nomark _)) (pss_one (ps_raise rfl tk (pmk_E (T.k 5 (by decide)) (T.u 5 (by decide)) T.g5 hr (pa_cons (pv 1) pa_nil)))) pss_nil)
        (pss_cons (ps_if (pt_cmpR op_eq (pv 0) pe_int (nomark _)) (pss_one (ps_raise rfl tk (pmk_E (T.k 6 (by decide)) (T.u 6 (by decide)) T.g6 hr (pa_cons (pv 1) pa_nil)))) pss_nil)
        (pss_cons (ps_if (pt_cmpR op_eq (pv 0) pe_int (nomark _)) (pss_one (ps_raise rfl tk (pmk_0 (T.k 7 (by decide)) (T.b 7 (by decide) (by decide)) T.g7))) pss_nil)
        (pss_cons (ps_if (pt_cmpR op_eq (pv 0) pe_int (nomark _)) (pss_one (ps_raise rfl tk (pmk_0 (T.k 8 (by decide)) (T.b 8 (by decide) (by decide)) T.g8))) pss_nil)
        (pss_one (ps_raise rfl tk (pmk_0 (T.k 9 (by decide)) (T.b 9 (by decide) (by decide)) T.g9)))))))))))))
        (fun a oe cls d pn hz hf => (pss_one (ps_set (i := 2) scC.nd rfl (.inl rfl) (pv 3)))))
        (pss_one (ps_ret (pe_lstN (pa_cons (pe_call GK hr rfl gK FK.kp bK .nil pass0 (pa_cons (pv 2) pa_nil)) (pa_cons (pe_call GP hr rfl gP FP.kp bP .nil pass0 (pa_cons (pv 0) (pa_cons (pv 2) pa_nil))) pa_nil))))))), ?_⟩
    have rest : ∀ (a : Addr) (H1 : Hp), Same H H1 → ErrAt C H1 n it a → tRet (tLstN (tCons (tCall (spKinds K C) [] E0 (tCons (tVar 2) tNil)) (tCons (tCall (spKept C) [] E0 (tCons (tVar 0) (tCons (tVar 2) tNil))) tNil)))
        { nx := fun _ H' => Q .non H', rt := Q } [some (.int (n : Int)), some it, some (.ref a), none] H1 := by
      intro a H1 S1 hE
      obtain ⟨d, h1, h2⟩ := hE.look
      refine ⟨_, rfl, a, C n, d, fun j => n == j, rfl, T.k n hn, h1, h2, fun j hj => T.kit n j hn hj, fun p1 H2 S2 z1 n1 l1 => ?_⟩
      rw [kinds_one n hn] at l1
      refine ⟨_, rfl, _, rfl, n, it, a, rfl, hn, hE.same S2, fun p2 H3 S3 z2 n2 l2 => ?_⟩
      refine ⟨by show 2 ≤ sizeLine; decide, fun p hp np => ?_⟩
      have S4 := same_new (o := .lst [.ref p1, .ref p2]) hp
      exact k p p1 p2 _ (((S1.trans S2).trans S3).trans S4) np n1 n2 upd_same (S4 _ _ (S3 _ _ l1)) (S4 _ _ l2)
    refine ⟨_, rfl, rfl, _, rfl, ?_⟩
    refine ite2 (fun c => ?_) (fun c0 => ?_)
    · obtain rfl : n = 0 := by
        have z : (n : Int) = 0 := V.int.inj (of_decide_eq_true c)
        omega
      refine ⟨_, rfl, it, rfl, fun d hd => ⟨true, T.ex _ hn, fun _ a ha => ?_, fun z => nomatch z⟩⟩
      have nda : d ≠ a := ne_of_none upd_same ha
      refine ⟨_, rfl, rest a _ ((same_new hd).trans (same_new ha)) ?_⟩
      unfold ErrAt
      rw [if_pos (by decide)]
      exact ⟨d, upd_same, by rw [upd_ne nda]; exact upd_same⟩
    refine ⟨_, rfl, rfl, _, rfl, ?_⟩
    refine ite2 (fun c => ?_) (fun c1 => ?_)
    · obtain rfl : n = 1 := by
        have z : (n : Int) = 1 := V.int.inj (of_decide_eq_true c)
        omega
      refine ⟨_, rfl, it, rfl, fun d hd => ⟨true, T.ex _ hn, fun _ a ha => ?_, fun z => nomatch z⟩⟩
      have nda : d ≠ a := ne_of_none upd_same ha
      refine ⟨_, rfl, rest a _ ((same_new hd).trans (same_new ha)) ?_⟩
      unfold ErrAt
      rw [if_pos (by decide)]
      exact ⟨d, upd_same, by rw [upd_ne nda]; exact upd_same⟩
    refine ⟨_, rfl, rfl, _, rfl, ?_⟩
    refine ite2 (fun c => ?_) (fun c2 => ?_)
    · obtain rfl : n = 2 := by
        have z : (n : Int) = 2 := V.int.inj (of_decide_eq_true c)
        omega
      refine ⟨_, rfl, it, rfl, fun d hd => ⟨true, T.ex _ hn, fun _ a ha => ?_, fun z => nomatch z⟩⟩
      have nda : d ≠ a := ne_of_none upd_same ha
      refine ⟨_, rfl, rest a _ ((same_new hd).trans (same_new ha)) ?_⟩
      unfold ErrAt
      rw [if_pos (by decide)]
      exact ⟨d, upd_same, by rw [upd_ne nda]; exact upd_same⟩
    refine ⟨_, rfl, rfl, _, rfl, ?_⟩
    refine ite2 (fun c => ?_) (fun c3 => ?_)
    · obtain rfl : n = 3 := by
        have z : (n : Int) = 3 := V.int.inj (of_decide_eq_true c)
        omega
      refine ⟨_, rfl, it, rfl, fun d hd => ⟨true, T.ex _ hn, fun _ a ha => ?_, fun z => nomatch z⟩⟩
      have nda : d ≠ a := ne_of_none upd_same ha
      refine ⟨_, rfl, rest a _ ((same_new hd).trans (same_new ha)) ?_⟩
      unfold ErrAt
      rw [if_pos (by decide)]
      exact ⟨d, upd_same, by rw [upd_ne nda]; exact upd_same⟩
    refine ⟨_, rfl, rfl, _, rfl, ?_⟩
    refine ite2 (fun c => ?_) (fun c4 => ?_)
    · obtain rfl : n = 4 := by
        have z : (n : Int) = 4 := V.int.inj (of_decide_eq_true c)
        omega
      refine ⟨_, rfl, it, rfl, fun d hd => ⟨true, T.ex _ hn, fun _ a ha => ?_, fun z => nomatch z⟩⟩
      have nda : d ≠ a := ne_of_none upd_same ha
      refine ⟨_, rfl, rest a _ ((same_new hd).trans (same_new ha)) ?_⟩
      unfold ErrAt
      rw [if_pos (by decide)]
      exact ⟨d, upd_same, by rw [upd_ne nda]; exact upd_same⟩
    refine ⟨_, rfl, rfl, _, rfl, ?_⟩
    refine ite2 (fun c => ?_) (fun c5 => ?_)
    · obtain rfl : n = 5 := by
        have z : (n : Int) = 5 := V.int.inj (of_decide_eq_true c)
        omega
      refine ⟨_, rfl, it, rfl, fun d hd => ⟨true, T.ex _ hn, fun _ a ha => ?_, fun z => nomatch z⟩⟩
      have nda : d ≠ a := ne_of_none upd_same ha
      refine ⟨_, rfl, rest a _ ((same_new hd).trans (same_new ha)) ?_⟩
      unfold ErrAt
      rw [if_pos (by decide)]
      exact ⟨d, upd_same, by rw [upd_ne nda]; exact upd_same⟩
    refine ⟨_, rfl, rfl, _, rfl, ?_⟩
    refine ite2 (fun c => ?_) (fun c6 => ?_)
    · obtain rfl : n = 6 := by
        have z : (n : Int) = 6 := V.int.inj (of_decide_eq_true c)
        omega
      refine ⟨_, rfl, it, rfl, fun d hd => ⟨true, T.ex _ hn, fun _ a ha => ?_, fun z => nomatch z⟩⟩
      have nda : d ≠ a := ne_of_none upd_same ha
      refine ⟨_, rfl, rest a _ ((same_new hd).trans (same_new ha)) ?_⟩
      unfold ErrAt
      rw [if_pos (by decide)]
      exact ⟨d, upd_same, by rw [upd_ne nda]; exact upd_same⟩
    refine ⟨_, rfl, rfl, _, rfl, ?_⟩
    refine ite2 (fun c => ?_) (fun c7 => ?_)
    · obtain rfl : n = 7 := by
        have z : (n : Int) = 7 := V.int.inj (of_decide_eq_true c)
        omega
      refine ⟨true, T.ex _ hn, fun _ a ha => ?_, fun z => nomatch z⟩
      refine ⟨_, rfl, rest a _ (same_new ha) ?_⟩
      unfold ErrAt
      rw [if_neg (by decide)]
      exact upd_same
    refine ⟨_, rfl, rfl, _, rfl, ?_⟩
    refine ite2 (fun c => ?_) (fun c8 => ?_)
    · obtain rfl : n = 8 := by
        have z : (n : Int) = 8 := V.int.inj (of_decide_eq_true c)
        omega
      refine ⟨true, T.ex _ hn, fun _ a ha => ?_, fun z => nomatch z⟩
      refine ⟨_, rfl, rest a _ (same_new ha) ?_⟩
      unfold ErrAt
      rw [if_neg (by decide)]
      exact upd_same
    obtain rfl : n = 9 := by
      have m0 : n ≠ 0 := fun e => c0 (by rw [e]; rfl)
      have m1 : n ≠ 1 := fun e => c1 (by rw [e]; rfl)
      have m2 : n ≠ 2 := fun e => c2 (by rw [e]; rfl)
      have m3 : n ≠ 3 := fun e => c3 (by rw [e]; rfl)
      have m4 : n ≠ 4 := fun e => c4 (by rw [e]; rfl)
      have m5 : n ≠ 5 := fun e => c5 (by rw [e]; rfl)
      have m6 : n ≠ 6 := fun e => c6 (by rw [e]; rfl)
      have m7 : n ≠ 7 := fun e => c7 (by rw [e]; rfl)
      have m8 : n ≠ 8 := fun e => c8 (by rw [e]; rfl)
      omega
    refine ⟨true, T.ex _ hn, fun _ a ha => ?_, fun z => nomatch z⟩
    refine ⟨_, rfl, rest a _ (same_new ha) ?_⟩
    unfold ErrAt
    rw [if_neg (by decide)]
    exact upd_same
end
end Vk
set_option Elab.async false
set_option linter.all false
set_option maxRecDepth 100000
set_option maxHeartbeats 4000000
namespace Vk
open PySem PySem.Spec PyProof.Rows L2 PySem.Vx
/-! ### a text times a number -/
def rMulS : R2 := fun x y H Q => ∃ (z : Str) (n : Int), x = .str z ∧ y = .int n ∧ MulOk z n ∧ Q (.str (Txt.mul z n)) H
theorem op_mulS {X : Cx} : OpR X (binaryOp .Mult) rMulS := by
  intro pins s σ H x y v u Q I rx ry h
  obtain ⟨z, n, rfl, rfl, ok, q⟩ := h
  obtain ⟨t, rfl⟩ := rx
  obtain ⟨t2, rfl⟩ := ry
  exact SB.mul ok fun t' k => ⟨.str _, H, I.tok k, ⟨t', rfl⟩, q⟩
/-! ### the lot -/
def a99 : Str := Txt.mul "a" 99
def lotD : List PyData := [.int 0, .int (-1), .int (10 ^ 39), .bool true, .bool false, .none, .str "", .str "moves", .str a99, .tuple [], .list [], .dict [], .tuple [.int 0, .int 1], .tuple [.str "", .str "a"], .list [.list []], .dict [(.str "a", .int 1)]]
def good (d : PyData) : Bool := d.showable && (decide (d.depth ≤ 60) && decide (d.shown.length ≤ 1000))
def dk (i : Nat) (d : PyData) : PyData := .list (if i < 7 then [d] else [])
theorem all_good : (lotD.all fun d => (List.range 10).all fun i => good (dk i d) && good (.list [.list [.int (i : Int)], dk i d])) = true := by decide +kernel
theorem good_of {d : PyData} {i : Nat} (hd : d ∈ lotD) (hi : i < 10) : good (dk i d) = true ∧ good (.list [.list [.int (i : Int)], dk i d]) = true := by
  have z := List.all_eq_true.mp (List.all_eq_true.mp all_good d hd) i (List.mem_range.mpr hi)
  simpa using z
theorem good_ok {d : PyData} (h : good d = true) : d.showable = true ∧ d.depth ≤ 60 ∧ d.shown.length ≤ sizeLine := by
  unfold good at h
  simp only [Bool.and_eq_true, decide_eq_true_eq] at h
  exact ⟨h.1, h.2.1, Nat.le_trans h.2.2 (by decide)⟩
theorem DeckAt.same {H H' : Hp} {d g : Addr} {n : Int} (D : DeckAt H d g n) (s : Same H H') : DeckAt H' d g n := by
  obtain ⟨m, l, h1, h2⟩ := D.dk
  obtain ⟨gs, h3, h4⟩ := D.gr
  exact ⟨⟨m, l, s _ _ h1, h2⟩, gs, s _ _ h3, h4⟩
theorem lot_base {H1 HL : Hp} {d g : Addr} (E : Same H1 HL) (hd : ∃ o, H1 d = some o) (hg : ∃ o, H1 g = some o) : ∃ Hf : Hp, (∀ b o, Hf b = some o → HL b = some o ∧ b ≠ d ∧ b ≠ g) ∧ ∀ c o, H1 c = none → HL c = some o → Hf c = some o := by
  refine ⟨fun b => if b = d ∨ b = g then none else HL b, fun b o e => ?_, fun c o n e => ?_⟩
  · by_cases hb : b = d ∨ b = g
    · have z := (if_pos hb).symm.trans e
      cases z
    · have z := (if_neg hb).symm.trans e
      exact ⟨z, fun q => hb (.inl q), fun q => hb (.inr q)⟩
  · obtain ⟨od, hd⟩ := hd
    obtain ⟨og, hg⟩ := hg
    have hc : ¬ (c = d ∨ c = g) := fun q => by
      rcases q with q | q
      · rw [q, hd] at n
        cases n
      · rw [q, hg] at n
        cases n
    exact (if_neg hc).trans e
def lotV (t0 l0 d0 t1 t2 l2 d1 : Addr) : List V := [.int 0, .int (-1), .int (10 ^ 39), .bl true, .bl false, .non, .str "", .str "moves", .str a99, .ref t0, .ref l0, .ref d0, .ref t1, .ref t2, .ref l2, .ref d1]
theorem lot_items {K : PySem.W.Frag} {Hf : Hp} {t0 l0 d0 t1 t2 l1 l2 d1 : Addr} (w0 : Hf t0 = some (.tup [])) (w1 : Hf l0 = some (.lst [])) (w2 : Hf d0 = some (.dK [])) (w3 : Hf t1 = some (.tup [.int 0, .int 1])) (w4 : Hf t2 = some (.tup [.str "", .str "a"]))
    (w5 : Hf l1 = some (.lst [])) (w6 : Hf l2 = some (.lst [.ref l1])) (w7 : Hf d1 = some (.dK [(Sum.inr "a", .int 1)])) (n0 : l0 ≠ sysModules) (n1 : l1 ≠ sysModules) (n2 : l2 ≠ sysModules) :
    ∀ (i : Nat) (v : V), (lotV t0 l0 d0 t1 t2 l2 d1)[i]? = some v → ∃ dt, dt ∈ lotD ∧ Dr K Hf v dt
  | 0, _, rfl => ⟨_, List.mem_of_getElem? (i := 0) rfl, .int 0⟩
  | 1, _, rfl => ⟨_, List.mem_of_getElem? (i := 1) rfl, .int (-1)⟩
  | 2, _, rfl => ⟨_, List.mem_of_getElem? (i := 2) rfl, .int _⟩
  | 3, _, rfl => ⟨_, List.mem_of_getElem? (i := 3) rfl, .bl true⟩
  | 4, _, rfl => ⟨_, List.mem_of_getElem? (i := 4) rfl, .bl false⟩
  | 5, _, rfl => ⟨_, List.mem_of_getElem? (i := 5) rfl, .non⟩
  | 6, _, rfl => ⟨_, List.mem_of_getElem? (i := 6) rfl, .str _⟩
  | 7, _, rfl => ⟨_, List.mem_of_getElem? (i := 7) rfl, .str _⟩
  | 8, _, rfl => ⟨_, List.mem_of_getElem? (i := 8) rfl, .str _⟩
  | 9, _, rfl => ⟨_, List.mem_of_getElem? (i := 9) rfl, .tup (SqT.of w0) .nil⟩
  | 10, _, rfl => ⟨_, List.mem_of_getElem? (i := 10) rfl, .lst n0 (SqL.of w1) .nil⟩
  | 11, _, rfl => ⟨_, List.mem_of_getElem? (i := 11) rfl, .dct (kvs := []) (ds := []) w2 .nil⟩
  | 12, _, rfl => ⟨_, List.mem_of_getElem? (i := 12) rfl, .tup (SqT.of w3) (.cons (.int 0) (.cons (.int 1) .nil))⟩
  | 13, _, rfl => ⟨_, List.mem_of_getElem? (i := 13) rfl, .tup (SqT.of w4) (.cons (.str _) (.cons (.str _) .nil))⟩
  | 14, _, rfl => ⟨_, List.mem_of_getElem? (i := 14) rfl, .lst n2 (SqL.of w6) (.cons (.lst n1 (SqL.of w5) .nil) .nil)⟩
  | 15, _, rfl => ⟨_, List.mem_of_getElem? (i := 15) rfl, .dct (kvs := [(Sum.inr "a", .int 1)]) (ds := [.int 1]) w7 (.cons (.int 1) .nil)⟩
  | i + 16, v, e => by
    have z : (lotV t0 l0 d0 t1 t2 l2 d1)[i + 16]? = none := List.getElem?_eq_none (Nat.le_add_left 16 i)
    rw [z] at e
    cases e
theorem due_if {i : Nat} {v : V} {σ : L2.St} {H : Hp} {Kn : VK} (hσ : σ[5]? = some (some v)) (h : ∀ p, H p = none → p ≠ sysModules → Kn (.ref p) (upd H p (.lst (if i < 7 then [v] else [])))) :
    if decide ((i : Int) < 7) = true then tLstN (tCons (tVar 5) tNil) σ H Kn else tLstN tNil σ H Kn := by
  refine ite2 (fun c => ?_) (fun c => ?_)
  · have c : (i : Int) < 7 := of_decide_eq_true c
    refine ⟨v, hσ, by show 1 ≤ sizeLine; decide, fun p hp np => ?_⟩
    have z := h p hp np
    rwa [if_pos (show i < 7 by omega)] at z
  · have c : ¬ (i : Int) < 7 := fun z => c (decide_eq_true z)
    refine ⟨Nat.zero_le _, fun p hp np => ?_⟩
    have z := h p hp np
    rwa [if_neg (show ¬ i < 7 by omega)] at z
theorem dr_due {K : PySem.W.Frag} {H : Hp} {i : Nat} {v : V} {dt : PyData} {p : Addr} (h : Dr K H v dt) (np : p ≠ sysModules) (hp : H p = some (.lst (if i < 7 then [v] else []))) : Dr K H (.ref p) (dk i dt) := by
  unfold dk
  by_cases hi : i < 7
  · rw [if_pos hi] at hp ⊢
    exact .lst np (SqL.of hp) (.cons h .nil)
  · rw [if_neg hi] at hp ⊢
    exact .lst np (SqL.of hp) .nil
theorem eqv_one (n : Int) : PyData.eqv (.list [.int n]) (.list [.int n]) = true := by
  show ((n == n) && true) = true
  simp
theorem shaped_one (n : Int) : SeqAt.shaped (.list [.int n]) = true := by rfl
def spLaw (K : PySem.W.Frag) : Sp := fun vs H Q _ => ∃ (a : Addr) (ns : List Int), vs = [.ref a] ∧ SqL K H a (ns.map V.int) ∧ ns.length ≤ 63 ∧ ∀ H', Q (.bl true) H'
section
variable {P : Program} {w : World} {K : PySem.W.Frag} {mg : Str → Option Value} {base : Heap} {C fI : Nat → Addr} {CL : Addr}
theorem scL : FnScope ["_law_script", "_law_deck_here", "_law_lot", "_law_at", "_law_turn", "_law_it", "_law_due", "_law_e"] ["_law_script"] (defScope sLaw) := ⟨rfl, rfl, rfl, by decide +kernel, rfl, by decide +kernel, by decide +kernel⟩
theorem ok_law {f fDk fDw fPk fM fK fP fU fC : Addr} {fd fdDk fdDw fdPk fdM fdK fdP fdU fdC : FuncData} (F : Fun K "law" "law" sLaw f fd) (T : Txt K mg C fI CL)
    (FDk : Fun K "_law_deck" "_law_deck" sDeck fDk fdDk) (gDk : mg "_law_deck" = some (.ref fDk)) (bDk : Binds K fdDk ["_law_script"] [])
    (FDw : Fun K "_law_draw" "_law_draw" sDraw fDw fdDw) (gDw : mg "_law_draw" = some (.ref fDw)) (bDw : Binds K fdDw ["_law_deck_here", "_law_below"] [])
    (FPk : Fun K "_law_pick" "_law_pick" sPick fPk fdPk) (gPk : mg "_law_pick" = some (.ref fPk)) (bPk : Binds K fdPk ["_law_deck_here", "_law_menu"] [])
    (FM : Fun K "_law_made" "_law_made" sMade fM fdM) (gM : mg "_law_made" = some (.ref fM)) (bM : Binds K fdM ["_law_at", "_law_it"] [])
    (FK : Fun K "_law_kinds" "_law_kinds" sKinds fK fdK) (gK : mg "_law_kinds" = some (.ref fK)) (bK : Binds K fdK ["_law_e"] [])
    (FP : Fun K "_law_kept" "_law_kept" sKept fP fdP) (gP : mg "_law_kept" = some (.ref fP)) (bP : Binds K fdP ["_law_at", "_law_e"] [])
    (FU : Fun K "_law_is_usual" "_law_is_usual" sUsual fU fdU) (gU : mg "_law_is_usual" = some (.ref fU)) (bU : Binds K fdU ["_law_e"] [])
    (FC : Fun K "_law_caught" "_law_caught" sCaught fC fdC) (gC : mg "_law_caught" = some (.ref fC)) (bC : Binds K fdC ["_law_at", "_law_it"] []) : FnG P w K mg base CX0 3 f fd ["_law_script"] (spLaw K) := by
  have GDk : FnOk P w K mg base CX0 1 fDk fdDk ["_law_script"] (spDeck K) := ok_deck FDk T.int
  have GPk : FnOk P w K mg base CX0 2 fPk fdPk ["_law_deck_here", "_law_menu"] (spPick K) := ok_pick FPk FDw gDw bDw T.int T.len
  have GM : FnOk P w K mg base CX0 2 fM fdM ["_law_at", "_law_it"] (spMade C) := ok_made FM T
  have GK : FnOk P w K mg base CX0 1 fK fdK ["_law_e"] (spKinds K C) := ok_kinds FK T
  have GP : FnOk P w K mg base CX0 1 fP fdP ["_law_at", "_law_e"] (spKept C) := ok_kept FP T
  have GU : FnOk P w K mg base CX0 1 fU fdU ["_law_e"] (spUsual K C) := ok_usual FU T
  have GC : FnOk P w K mg base CX0 2 fC fdC ["_law_at", "_law_it"] (spCaught C) := ok_caught FC T FK gK bK FP gP bP
  refine okG F scL (fun vs H Q E h => ?_) (fun cdv A outer s H vs Q E hgd hr h => ?_)
  · obtain ⟨a, ns, rfl, _⟩ := h
    rfl
  · obtain ⟨a, ns, rfl, hS, hlen, k⟩ := h
    have hr1 : Room 1 _ := hr.mono (by decide)
    have hr2 : Room 2 _ := hr
    refine ⟨_, (pss_cons (ps_set (i := 1) scL.nd rfl (.inl rfl) (pe_call GDk hr1 rfl gDk FDk.kp bDk .nil pass0 (pa_cons (pv 0) pa_nil)))
        (pss_cons (ps_set (i := 2) scL.nd rfl (.inl rfl) (pe_lstN (pa_cons pe_int (pa_cons (pe_un un_neg pe_int) (pa_cons (pe_op op_pow pe_int pe_int) (pa_cons pe_bl (pa_cons pe_bl (pa_cons pe_non (pa_cons pe_str (pa_cons pe_str (pa_cons (pe_op op_mulS pe_str pe_int) (pa_cons (pe_tup pa_nil) (pa_cons (pe_lstN pa_nil) (pa_cons pe_dnewK (pa_cons (pe_tup (pa_cons pe_int (pa_cons pe_int pa_nil))) (pa_cons (pe_tup (pa_cons pe_str (pa_cons pe_str pa_nil))) (pa_cons (pe_lstN (pa_cons (pe_lstN pa_nil) pa_nil)) (pa_cons (pe_disp (pps_cons pe_str pe_int pps_nil) (by rfl) (by rfl) (fun z => by cases z) (by decide)) pa_nil))))))))))))))))))
        (pss_cons (ps_for PassesOwn.never rfl (pi_range1 (by rfl) T.range (pa_cons pe_int pa_nil)) (pg_name (i := 3) scL.nd rfl (.inl rfl)) (pss_one (ps_for PassesOwn.never rfl (pi_range1 (by rfl) T.range (pa_cons pe_int pa_nil)) (pg_name (i := 4) scL.nd rfl (.inl rfl)) (pss_cons (ps_set (i := 5) scL.nd rfl (.inl rfl) (pe_call GPk hr2 rfl gPk FPk.kp bPk .nil pass0 (pa_cons (pv 1) (pa_cons (pv 2) pa_nil))))
        (pss_cons (ps_set (i := 6) scL.nd rfl (.inl rfl) (pe_ifExp (pt_cmpR op_lt (pv 3) pe_int (nomark _)) (pe_lstN (pa_cons (pv 5) pa_nil)) (pe_lstN pa_nil)))
        (pss_cons (ps_for PassesOwn.never rfl (pi_list (pe_call GM hr2 rfl gM FM.kp bM .nil pass0 (pa_cons (pv 3) (pa_cons (pv 5) pa_nil)))) (pg_name (i := 7) scL.nd rfl (.inl rfl)) (pss_cons (ps_if (PW.pt (pw_or (pt_not (pt_val (pe_callB call_isK (by rfl) T.isi (by decide +kernel) (pa_cons (pv 7) (pa_cons (pe_glob (v := .ref CL) (by rfl) T.gL rfl) pa_nil))))) (pw_or (pt_not (pt_val (pe_callB call_isK (by rfl) T.isi (by decide +kernel) (pa_cons (pv 7) (pa_cons (pe_bltn (v := .ty "Exception") (by rfl) T.eEx (by decide +kernel) rfl) pa_nil))))) (pw_or1 (pt_cmpR (op_neD hr.units) (pe_call GK hr1 rfl gK FK.kp bK .nil pass0 (pa_cons (pv 7) pa_nil)) (pe_lstN (pa_cons (pv 3) pa_nil)) (nomark _)))))) (pss_one (ps_ret pe_bl)) pss_nil)
        (pss_one (ps_if (PW.pt (pw_or (pt_cmpR op_ne (pe_callB (call_repr hgd hr) (by rfl) T.rep (by decide +kernel) (pa_cons (pe_call GP hr1 rfl gP FP.kp bP .nil pass0 (pa_cons (pv 3) (pa_cons (pv 7) pa_nil))) pa_nil)) (pe_callB (call_repr hgd hr) (by rfl) T.rep (by decide +kernel) (pa_cons (pv 6) pa_nil)) (nomark _)) (pw_or1 (pt_val (pe_call GU hr1 rfl gU FU.kp bU .nil pass0 (pa_cons (pv 7) pa_nil)))))) (pss_one (ps_ret pe_bl)) pss_nil))))
        (pss_one (ps_if (pt_cmpR op_ne (pe_callB (call_repr hgd hr) (by rfl) T.rep (by decide +kernel) (pa_cons (pe_call GC hr2 rfl gC FC.kp bC .nil pass0 (pa_cons (pv 3) (pa_cons (pv 5) pa_nil))) pa_nil)) (pe_callB (call_repr hgd hr) (by rfl) T.rep (by decide +kernel) (pa_cons (pe_lstN (pa_cons (pe_lstN (pa_cons (pv 3) pa_nil)) (pa_cons (pv 6) pa_nil))) pa_nil)) (nomark _)) (pss_one (ps_ret pe_bl)) pss_nil))))))))
        (pss_one (ps_ret (pe_cmpR (op_eqD hr.units) (pe_call GK hr1 rfl gK FK.kp bK .nil pass0 (pa_cons (pe_mk0 T.kL T.bL T.gL) pa_nil)) (pe_lstN pa_nil) (nomark _))))))), ?_⟩
    refine ⟨_, rfl, a, ns, rfl, hS, hlen, fun d g H1 S1 fd0 fg0 D0 => ?_⟩
    have hd1 : ∃ o, H1 d = some o := let ⟨m, l, z, _⟩ := D0.dk; ⟨_, z⟩
    have hg1 : ∃ o, H1 g = some o := let ⟨gs, z, _⟩ := D0.gr; ⟨_, z⟩
    refine ⟨_, rfl, _, _, rfl, rfl, ⟨by decide, by decide, by decide⟩, _, _, rfl, rfl, ⟨by decide, fun _ _ => by decide, fun _ _ => by decide⟩, ?_⟩
    refine ⟨Nat.zero_le _, fun t0 ht0 => ⟨Nat.zero_le _, fun l0 hl0 nl0 => fun d0 hd0 => ?_⟩⟩
    refine ⟨by show 2 ≤ sizeLine; decide, fun t1 ht1 => ⟨by show 2 ≤ sizeLine; decide, fun t2 ht2 => ⟨Nat.zero_le _, fun l1 hl1 nl1 => ⟨by show 1 ≤ sizeLine; decide, fun l2 hl2 nl2 => fun d1 hd1' => ?_⟩⟩⟩⟩
    refine ⟨upd_same, [(.inr "a", .int 1)], rfl, by decide, by show 16 ≤ sizeLine; decide, fun L hL nL => ?_⟩
    rw [upd_upd] at hL ⊢
    have E9 := same_new (o := .lst [.int 0, .int (-1), .int (10 ^ 39), .bl true, .bl false, .non, .str "", .str "moves", .str a99, .ref t0, .ref l0, .ref d0, .ref t1, .ref t2, .ref l2, .ref d1]) hL
    have E8 := (same_new (o := .dK (mergeK [] [(Sum.inr "a", .int 1)])) hd1').trans E9
    have E7 := (same_new (o := .lst [.ref l1]) hl2).trans E8
    have E6 := (same_new (o := .lst []) hl1).trans E7
    have E5 := (same_new (o := .tup [.str "", .str "a"]) ht2).trans E6
    have E4 := (same_new (o := .tup [.int 0, .int 1]) ht1).trans E5
    have E3 := (same_new (o := .dK []) hd0).trans E4
    have E2 := (same_new (o := .lst []) hl0).trans E3
    have E1 := (same_new (o := .tup []) ht0).trans E2
    have P1 := same_new (o := .tup []) ht0
    have P2 := P1.trans (same_new (o := .lst []) hl0)
    have P3 := P2.trans (same_new (o := .dK []) hd0)
    have P4 := P3.trans (same_new (o := .tup [.int 0, .int 1]) ht1)
    have P5 := P4.trans (same_new (o := .tup [.str "", .str "a"]) ht2)
    have P6 := P5.trans (same_new (o := .lst []) hl1)
    have P7 := P6.trans (same_new (o := .lst [.ref l1]) hl2)
    have P8 := P7.trans (same_new (o := .dK (mergeK [] [(Sum.inr "a", .int 1)])) hd1')
    have w0 := E2 _ _ (upd_same (H := H1) (a := t0) (o := .tup []))
    have w1 := E3 _ _ upd_same
    have w2 := E4 _ _ upd_same
    have w3 := E5 _ _ upd_same
    have w4 := E6 _ _ upd_same
    have w5 := E7 _ _ upd_same
    have w6 := E8 _ _ upd_same
    have w7 := E9 _ _ upd_same
    have v1 := P1.free hl0
    have v2 := P2.free hd0
    have v3 := P3.free ht1
    have v4 := P4.free ht2
    have v5 := P5.free hl1
    have v6 := P6.free hl2
    have v7 := P7.free hd1'
    have v8 := P8.free hL
    have w8 := E9 L
    clear E2 E3 E4 E5 E6 E7 E8 P1 P2 P3 P4 P5 P6 P7 P8
    obtain ⟨Hf, base1, base2⟩ := lot_base E1 hd1 hg1
    have LOT : ∀ (i : Nat) (v : V), (lotV t0 l0 d0 t1 t2 l2 d1)[i]? = some v → ∃ dt, dt ∈ lotD ∧ Dr K Hf v dt :=
      lot_items (base2 _ _ ht0 w0) (base2 _ _ v1 w1) (base2 _ _ v2 w2) (base2 _ _ v3 w3) (base2 _ _ v4 w4) (base2 _ _ v5 w5) (base2 _ _ v6 w6) (base2 _ _ v7 w7) nl0 nl1 nl2
    have fL : Hf L = some (.lst (lotV t0 l0 d0 t1 t2 l2 d1)) := base2 L _ v8 upd_same
    have nLg : L ≠ g := (base1 _ _ fL).2.2
    have SL : Same Hf _ := fun b o e => (base1 b o e).1
    have DL := D0.same E1
    have bat : ∀ {H2 H3 : Hp}, Same Hf H2 → But d g H2 H3 → Same Hf H3 := fun s2 b3 b o e => b3 b o (s2 b o e) (base1 b o e).2.1 (base1 b o e).2.2
    refine ⟨10, rfl, by decide, by decide, for_range (lo := 0) (n := 10) (fun i σ H2 => ∃ (n : Int) (x3 x4 x5 x6 x7 : Option V), σ = [some (.ref a), some (.ref d), some (.ref L), x3, x4, x5, x6, x7] ∧ Same Hf H2 ∧ DeckAt H2 d g n ∧ n ≤ 6 * (i : Int))
      ⟨0, _, _, _, _, _, rfl, SL, DL, Int.le_refl _⟩ ?_ ?_⟩
    · rintro i σ H2 hi ⟨n, x3, x4, x5, x6, x7, rfl, S2, D2, hn⟩
      rw [Int.zero_add]
      refine ⟨6, rfl, by decide, by decide, for_range (lo := 0) (n := 6) (fun j σ H3 => ∃ (n : Int) (x4 x5 x6 x7 : Option V), σ = [some (.ref a), some (.ref d), some (.ref L), some (.int (i : Int)), x4, x5, x6, x7] ∧ Same Hf H3 ∧ DeckAt H3 d g n ∧ n ≤ 6 * (i : Int) + (j : Int))
        ⟨n, _, _, _, _, rfl, S2, D2, by omega⟩ ?_ ?_⟩
      · rintro j σ H3 hj ⟨n, x4, x5, x6, x7, rfl, S3, D3, hn3⟩
        refine ⟨_, rfl, _, rfl, d, g, L, n, _, rfl, D3, by omega, S3.seq (SqL.of fL), by show 0 < 16; decide, by show 16 < 1000000; decide, nLg, fun t v H4 hv D4 B4 => ?_⟩
        obtain ⟨dt, hdt, drv⟩ := LOT t v hv
        have S4 : Same Hf H4 := bat S3 B4
        refine ⟨_, rfl, _, _, rfl, rfl, _, rfl, due_if (i := i) (v := v) rfl fun p6 hp6 np6 => ?_⟩
        have S45 := same_new (o := .lst (if i < 7 then [v] else [])) hp6
        have D5 := D4.same S45
        refine ⟨_, rfl, _, rfl, i, v, rfl, hi, fun p e1 e2 H6 S56 zp lp q1 q2 => ⟨p, rfl, ⟨_, SqL.of lp⟩, ?_⟩⟩
        have S46 := S45.trans S56
        have l6 := S56 _ _ (upd_same (H := H4) (a := p6) (o := .lst (if i < 7 then [v] else [])))
        refine for_list (K := K) (a := p) (xs := [.ref e1, .ref e2]) (fun t σ H7 => ∃ x7 : Option V, σ = [some (.ref a), some (.ref d), some (.ref L), some (.int (i : Int)), some (.int (0 + (j : Int))), some v, some (.ref p6), x7] ∧ Same H6 H7)
          ⟨_, rfl, Same.refl _⟩ (fun t σ H7 _ ⟨_, _, s⟩ => s.seq (SqL.of lp)) ?_ ?_
        · rintro t y σ H7 ht ⟨x7, rfl, S67⟩
          obtain ⟨e, rfl, hE⟩ : ∃ e, y = .ref e ∧ ErrAt C H6 i v e := by
            match t, ht with
            | 0, rfl => exact ⟨e1, rfl, q1⟩
            | 1, rfl => exact ⟨e2, rfl, q2⟩
          have hE7 := hE.same S67
          have dr7 := drv.keep ((S4.trans S46).trans S67)
          have l7 := S67 _ _ l6
          obtain ⟨dd, hx, hdd⟩ := hE7.look
          refine ⟨_, rfl, C i, T.k i hi, e, dd, .ref CL, .ref CL, true, rfl, hx, hdd, fun u r => r, T.isL i hi, true, rfl, iteF ?_⟩
          refine ⟨_, rfl, C i, T.k i hi, e, dd, .ty "Exception", .type "Exception", true, rfl, hx, hdd, fun u r => r, T.isE i hi, true, rfl, iteF ?_⟩
          refine ⟨_, rfl, e, C i, dd, fun z => i == z, rfl, T.k i hi, hx, hdd, fun z hz => T.kit i z hi hz, fun p8 H8 S78 z8 n8 l8 => ?_⟩
          rw [kinds_one i hi] at l8
          refine ⟨_, rfl, by show 1 ≤ sizeLine; decide, fun p9 z9 n9 => ?_⟩
          have S89 := same_new (o := .lst [.int (i : Int)]) z9
          refine ⟨.list [.int (i : Int)], .list [.int (i : Int)], .lst (SqL.of (S89 _ _ l8)) (.cons (.int _) .nil), .lst (SqL.of upd_same) (.cons (.int _) .nil), shaped_one _, shaped_one _, _, rfl, ?_⟩
          rw [eqv_one]
          refine iteF ?_
          have S79 := S78.trans S89
          refine ⟨_, rfl, _, rfl, i, v, e, rfl, hi, hE7.same S79, fun pA HA SA zA nA lA => ?_⟩
          obtain ⟨g1, _⟩ := good_of (i := i) hdt hi
          obtain ⟨g1, g2, g3⟩ := good_ok g1
          have drA := (dr7.keep S79).keep SA
          refine ⟨pA, dk i dt, rfl, dr_due drA nA lA, g1, g2, g3, _, rfl, p6, dk i dt, rfl, dr_due drA np6 (SA _ _ (S79 _ _ l7)), g1, g2, g3, rfl, _, rfl, ?_⟩
          refine iteNS rfl ?_
          refine ⟨_, rfl, e, dd, i, rfl, hi, SA _ _ (S79 _ _ hx), fun d2 h2 => let ⟨fs, q⟩ := hdd d2 h2; ⟨fs, SA _ _ (S79 _ _ q)⟩, fun HB SB => ⟨false, rfl, iteF ?_⟩⟩
          exact ⟨_, rfl, ((S67.trans S79).trans SA).trans SB⟩
        · rintro σ H7 ⟨x7, rfl, S67⟩
          have S47 := S46.trans S67
          have l7 := S67 _ _ l6
          have dr7 := drv.keep (S4.trans S47)
          refine ⟨_, rfl, _, rfl, i, v, rfl, hi, fun pA pB pC HA SA nA nB nC lA lB lC => ?_⟩
          have drA := dr7.keep SA
          obtain ⟨_, g1⟩ := good_of (i := i) hdt hi
          obtain ⟨g1, g2, g3⟩ := good_ok g1
          refine ⟨pA, .list [.list [.int (i : Int)], dk i dt], rfl, .lst nA (SqL.of lA) (.cons (.lst nB (SqL.of lB) (.cons (.int _) .nil)) (.cons (dr_due drA nC lC) .nil)), g1, g2, g3, ?_⟩
          refine ⟨_, rfl, by show 1 ≤ sizeLine; decide, fun pD zD nD => ⟨_, rfl, by show 2 ≤ sizeLine; decide, fun pE zE nE => ?_⟩⟩
          have SD := same_new (o := .lst [.int (i : Int)]) zD
          have SE := same_new (o := .lst [.ref pD, .ref p6]) zE
          have drE := (drA.keep SD).keep SE
          refine ⟨pE, .list [.list [.int (i : Int)], dk i dt], rfl, .lst nE (SqL.of upd_same) (.cons (.lst nD (SqL.of (SE _ _ upd_same)) (.cons (.int _) .nil)) (.cons (dr_due drE np6 (SE _ _ (SD _ _ (SA _ _ l7)))) .nil)), g1, g2, g3, rfl, _, rfl, ?_⟩
          refine iteNS rfl ?_
          have S7E := (SA.trans SD).trans SE
          exact ⟨n + 1, _, _, _, _, rfl, (S4.trans S47).trans S7E, (D4.same S47).same S7E, by omega⟩
      · rintro σ H3 ⟨n, x4, x5, x6, x7, rfl, S3, D3, hn3⟩
        exact ⟨n, _, _, _, _, _, rfl, S3, D3, by omega⟩
    · rintro σ H2 ⟨n, x3, x4, x5, x6, x7, rfl, S2, D2, hn⟩
      refine fun e he => ?_
      refine ⟨e, CL, none, fun _ => false, rfl, T.kL, upd_same, (fun dd z => nomatch z), fun j hj => T.kitL j hj, fun p H3 S3 z n3 l3 => ?_⟩
      refine ⟨Nat.zero_le _, fun q hq nq => ?_⟩
      have Sq := same_new (o := .lst []) hq
      exact ⟨.list [], .list [], .lst (SqL.of (Sq _ _ l3)) .nil, .lst (SqL.of upd_same) .nil, by decide, by decide, k _⟩
end
end Vk
set_option Elab.async false
set_option linter.all false
set_option maxRecDepth 100000
set_option maxHeartbeats 4000000
namespace Vk
open PySem PySem.Spec PyProof.Rows L2
theorem lawG {P : Program} {w : World} {K : PySem.W.Frag} {mg mb : Str → Option Value} {CX : CXT} {k : Nat} {fa a : Addr} {fd : FuncData} {x : Str} {sp : Sp} {s₁ : Shared} {vs : List Value} {ns : List Int}
    (kin : K.In s₁.heap) (gns : s₁.heap.Ns mainGlobals mg) (isB : s₁.heap.Ns builtinsNs mb) (bltin : ∀ x : Str, x ≠ "__name__" → mb x = bootBuiltins x) (limN : s₁.heap.NoLimit) (gens0 : s₁.gens = #[])
    (atA : s₁.heap.get? a = some { cls := .type "list", data := .seq vs.toArray }) (intsA : IntsAre vs ns) (few : ns.length ≤ sizeLine) (room : Room k callerA)
    (F : ∀ base : Heap, K.In base → base.Ns mainGlobals mg → FnG P w K mg base CX k fa fd [x] sp) (bind1 : ∀ (s : Shared) (u : Value), BindsTo s fd ⟨[u], []⟩ [(x, u)])
    (spec : ∀ H : Hp, Only H → SqL K H a (ns.map V.int) → sp [.ref a] H (fun v _ => v = .bl true) fun _ _ _ => False)
    (noX : ∀ H e s', CX [] H s₁ (fun _ _ _ => False) e s' → False) :
    codeAny (model P w) callerA (.call (.ref fa) ⟨[.ref a], []⟩) (fun r s' => r = .ok (.ret (.bool true)) ∧ OldK s₁.heap s'.heap ∧ s'.os = s₁.os ∧ AllBare s'.gens) s₁ := by
  have relV := vals_ints intsA
  have sizeV := intsA.length
  -- from an abstract heap in which nothing but the script may be tracked
  have from_ : ∀ H : Hp, Only H → SqL K H a (ns.map V.int) → HOk P w H s₁.heap → (∀ b, H b ≠ none → b = a) → (H a ≠ none → K.lookup a = none) →
      codeAny (model P w) callerA (.call (.ref fa) ⟨[.ref a], []⟩) (fun r s' => r = .ok (.ret (.bool true)) ∧ OldK s₁.heap s'.heap ∧ s'.os = s₁.os ∧ AllBare s'.gens) s₁ := by
    intro H only seqA okH onlyA notK
    have inBase : ∀ {b : Addr} {o : Obj}, s₁.heap.get? b = some o → H b = none → (hidT s₁.heap H).get? b = some o := fun e n => hidT_get e n
    have noDict : ∀ {b : Addr} {o : Obj} {es : Array DictEntry} {ep : Nat}, s₁.heap.get? b = some o → o.data = .dict es ep → H b = none := fun {b o es ep} e d => by
      cases q : H b with
      | none => rfl
      | some u =>
        have e' : b = a := onlyA b (by rw [q]; simp)
        subst e'
        rw [atA] at e; cases e
        have d' : Data.seq vs.toArray _ = Data.dict es ep := d
        cases d'
    have nsBase : ∀ {b : Addr} {m : Str → Option Value}, s₁.heap.Ns b m → (hidT s₁.heap H).Ns b m := fun {b m} ⟨o, es, ep, e, d, r⟩ => ⟨o, es, ep, inBase e (noDict e d), d, r⟩
    have kBase : K.In (hidT s₁.heap H) := fun b o e => inBase (kin b o e) (by
      cases q : H b with
      | none => rfl
      | some u =>
        have e' : b = a := onlyA b (by rw [q]; simp)
        subst e'
        rw [notK (by rw [q]; simp)] at e; cases e)
    have modB : Mod K mg (hidT s₁.heap H) := ⟨kBase, nsBase gns, ⟨mb, nsBase isB, bltin⟩, let ⟨mc, h1, h2⟩ := limN; ⟨mc, nsBase h1, h2⟩⟩
    have env0 : Env0 P w K mg (hidT s₁.heap H) callerA [] s₁ H := ⟨rfl, modB, fun b o e => of_hidT e, Nat.le_of_eq (hidT_size _ _), trivial, fun b isB => absurd (show b ∈ ([] : List Addr) from isB) (by simp), okH, .of_eq gens0⟩
    refine codeAny_mono ((F _ kBase (nsBase gns)).run callerA [] s₁ H ⟨[.ref a], []⟩ [.ref a] [.ref a] _ _ rfl room env0 (bind1 s₁ (.ref a)) (.cons rfl .nil) (spec H only seqA)) fun r s' h => ?_
    cases r with
    | error e => exact (noX H e s' h).elim
    | ok fl =>
      cases fl with
      | next => exact False.elim h
      | brk => exact False.elim h
      | cont => exact False.elim h
      | ret u =>
        obtain ⟨v, H', os, bareG, unk, hok', r', q⟩ := h
        have q' : v = .bl true := q
        subst q'
        obtain rfl : u = Value.bool true := r'
        refine ⟨rfl, OldK.of_keep fun b o e => ?_, os, bareG⟩
        cases q : H b with
        | none => exact unk.keep b o e q (by intro z; exact absurd (show b ∈ ([] : List Addr) from z) (by simp)) (by simp)
        | some u =>
          rcases only b with z | ⟨ob, xs, z⟩
          · rw [q] at z; cases z
          · have z2 := unk.frzs b ob _ z
            obtain ⟨e1, _⟩ := okH b _ z
            obtain ⟨e2, _⟩ := hok' b _ z2
            rw [e] at e1; cases e1
            exact e2
  cases lk : K.lookup a with
  | some o =>
    -- the script is one of the module's own objects
    have e := kin a o lk
    rw [atA] at e
    cases e
    refine from_ (fun _ => none) (fun _ => .inl rfl) (.inr ⟨_, vs.toArray, _, lk, rfl, rfl, rfl, by rw [List.size_toArray, sizeV]; exact few, by simpa using relV⟩) (fun b u z => by have z' : (none : Option HO) = some u := z; cases z') (fun b z => absurd rfl z) fun z => absurd rfl z
  | none =>
    refine from_ (fun b => if b = a then some (.frz { cls := .type "list", data := .seq vs.toArray } (.lst (ns.map V.int))) else none) (fun b => ?_) (.inl (.inr ⟨{ cls := .type "list", data := .seq vs.toArray }, if_pos rfl⟩)) (fun b u z => ?_) (fun b z => ?_) fun _ => lk
    · by_cases isB : b = a
      · exact .inr ⟨_, _, if_pos isB⟩
      · exact .inl (if_neg isB)
    · by_cases isB : b = a
      · have z' := (if_pos isB).symm.trans z
        cases z'
        subst isB
        exact ⟨atA, by rw [List.length_map]; exact few, vs, _, relV, atA⟩
      · have z' := (if_neg isB).symm.trans z
        cases z'
    · by_cases isB : b = a
      · exact isB
      · exact absurd (if_neg isB) z
theorem walkG {l : PySem.W.OpenLaw} {n k : Nat} {q : Program} {loose : List Str} {XP : (Str → Option Value) → Heap → Prop} {YP : World → Heap → Prop} {d : DefRec} {K : Params → PySem.W.Frag} {CX : World → CXT} {sp : World → Sp} {x : Str}
    (hn : l.most = some n) (hn2 : n ≤ sizeLine) (hdf : d.params.defaults = []) (room : Room k callerA)
    (hY : ∀ (w : World) (h : Heap), YP w h → (K w.params).In h)
    (F : ∀ (w : World) (mg : Str → Option Value) (fa : Addr) (h : Heap), (K w.params).In h → h.Ns mainGlobals mg → mg d.name = some (.ref fa) →
      ∃ fd : FuncData, (∀ (s : Shared) (u : Value), BindsTo s fd ⟨[u], []⟩ [(x, u)]) ∧
        ∀ base : Heap, (K w.params).In base → base.Ns mainGlobals mg → FnG l.prog w (K w.params) mg base (CX w) k fa fd [x] (sp w))
    (spec : ∀ (w : World) (H : Hp) (a : Addr) (ns : List Int), ns.length ≤ n → Only H → SqL (K w.params) H a (ns.map V.int) → sp w [.ref a] H (fun v _ => v = .bl true) fun _ _ _ => False)
    (noX : ∀ (w : World) (H : Hp) (s : Shared) (e : Value) (s' : Shared), CX w [] H s (fun _ _ _ => False) e s' → False) :
    PySem.W.WalkO q loose XP YP l.row.toRowW d [] (fun f vs => PySem.call f vs) := by
  refine Att.attach_call hn hdf fun w s₀ s₁ mg mb fa o pm cd doc a vs ns G Y ho hd hcd hmg hobj hints hlen gens0 => ?_
  have kin := hY w _ Y
  obtain ⟨fd, isB, hF⟩ := F w mg fa _ kin G.T.g hmg
  exact lawG kin G.T.g G.T.b G.T.builtins G.T.nolimit gens0 hobj hints (Nat.le_trans hlen hn2) room hF isB (fun H only seqA => spec w H a ns hlen only seqA) fun H e s' => noX w H s₁ e s'
end Vk
set_option Elab.async false
set_option linter.all false
set_option maxRecDepth 100000
set_option maxHeartbeats 4000000
namespace Vk
open PySem PySem.Spec PyProof.Rows L2 PySem.Vx
def usual5 : List String := ["ValueError", "LookupError", "TypeError", "ArithmeticError", "RuntimeError"]
/-- all that is looked up of the classes at once -/
def allB (K : PySem.W.Frag) (cs : List Addr) (cL : Addr) : Bool := ((List.range 10).all fun i => ecB K (cs.getD i 0) && ((List.range 10).all (fun j => PySem.W.kitOne K (.ref (cs.getD i 0)) (.ref (cs.getD j 0)) == some (i == j)) &&
  ((PySem.W.kitOne K (.ref (cs.getD i 0)) (.ref cL) == some true) && ((PySem.W.kitOne K (.ref (cs.getD i 0)) (.type "Exception") == some true) && (usual5.all (fun n => PySem.W.kitOne K (.ref (cs.getD i 0)) (.type n) == some false) &&
  ((PySem.W.exmOne K (.ref (cs.getD i 0)) (.ref cL) == some true) && (PySem.W.kitOne K (.ref cL) (.ref (cs.getD i 0)) == some false))))))) && ecB K cL
theorem allB_at {K : PySem.W.Frag} {cs : List Addr} {cL : Addr} (h : allB K cs cL = true) : EcK K cL ∧ ∀ i, i < 10 → EcK K (cs.getD i 0) ∧ (∀ j, j < 10 → PySem.W.kitOne K (.ref (cs.getD i 0)) (.ref (cs.getD j 0)) = some (i == j)) ∧ PySem.W.kitOne K (.ref (cs.getD i 0)) (.ref cL) = some true ∧
    PySem.W.kitOne K (.ref (cs.getD i 0)) (.type "Exception") = some true ∧ (∀ n, n ∈ usual5 → PySem.W.kitOne K (.ref (cs.getD i 0)) (.type n) = some false) ∧ PySem.W.exmOne K (.ref (cs.getD i 0)) (.ref cL) = some true ∧ PySem.W.kitOne K (.ref cL) (.ref (cs.getD i 0)) = some false := by
  unfold allB at h
  obtain ⟨h1, h2⟩ := Bool.and_eq_true_iff.mp h
  refine ⟨ecK_of h2, fun i hi => ?_⟩
  have z := List.all_eq_true.mp h1 i (List.mem_range.mpr hi)
  simp only [Bool.and_eq_true, List.all_eq_true, beq_iff_eq] at z
  obtain ⟨z1, z2, z3, z4, z5, z6, z7⟩ := z
  exact ⟨ecK_of z1, fun j hj => z2 j (List.mem_range.mpr hj), z3, z4, z5, z6, z7⟩

theorem all_mk {l : PySem.W.OpenLaw} {w : World} {K : PySem.W.Frag} {h : Heap} {mg : Str → Option Value} {fa c0 c1 c2 c3 c4 c5 c6 c7 c8 c9 cL e0 e1 e2 e3 e4 e5 e6 f0 f1 f2 f3 f4 f5 f6 f7 f8 : Addr} (X : K.In h) (G : h.Ns mainGlobals mg) (hfa : mg "law" = some (.ref fa))
    {od0 an0 od1 an1 od2 an2 od3 an3 od4 an4 od5 an5 od6 an6 od7 an7 od8 an8 : Option Addr} {sl0 sl1 sl2 sl3 sl4 sl5 sl6 sl7 sl8 : Array (Option Value)} {oc0 kV0 dc0 pm0 cd0 ct0 oc1 kV1 dc1 pm1 cd1 ct1 oc2 kV2 dc2 pm2 cd2 ct2 oc3 kV3 dc3 pm3 cd3 ct3 oc4 kV4 dc4 pm4 cd4 ct4 oc5 kV5 dc5 pm5 cd5 ct5 oc6 kV6 dc6 pm6 cd6 ct6 oc7 kV7 dc7 pm7 cd7 ct7 oc8 kV8 dc8 pm8 cd8 ct8 : Value}
    {xod0 xan0 xod1 xan1 xod2 xan2 xod3 xan3 xod4 xan4 xod5 xan5 xod6 xan6 : Option Addr} {xsl0 xsl1 xsl2 xsl3 xsl4 xsl5 xsl6 : Array (Option Value)} {xoc0 xdc0 xpm0 xcd0 xct0 xoc1 xdc1 xpm1 xcd1 xct1 xoc2 xdc2 xpm2 xcd2 xct2 xoc3 xdc3 xpm3 xcd3 xct3 xoc4 xdc4 xpm4 xcd4 xct4 xoc5 xdc5 xpm5 xcd5 xct5 xoc6 xdc6 xpm6 xcd6 xct6 : Value} {p10 p20 q10 q20 q30 q40 p11 p21 q11 q21 q31 q41 p12 p22 q12 q22 q32 q42 p13 p23 q13 q23 q33 q43 p14 p24 q14 q24 q34 q44 p15 p25 q15 q25 q35 q45 p16 p26 q16 q26 q36 q46 : Pos}
    (ac0 : PySem.W.nsIn K mainGlobals "BadMachine" = some (some (.ref c0)))
    (ac1 : PySem.W.nsIn K mainGlobals "BadExpression" = some (some (.ref c1)))
    (ac2 : PySem.W.nsIn K mainGlobals "BadText" = some (some (.ref c2)))
    (ac3 : PySem.W.nsIn K mainGlobals "SharedLetter" = some (some (.ref c3)))
    (ac4 : PySem.W.nsIn K mainGlobals "NotReversible" = some (some (.ref c4)))
    (ac5 : PySem.W.nsIn K mainGlobals "BadLevels" = some (some (.ref c5)))
    (ac6 : PySem.W.nsIn K mainGlobals "NoMove" = some (some (.ref c6)))
    (ac7 : PySem.W.nsIn K mainGlobals "NothingToUndo" = some (some (.ref c7)))
    (ac8 : PySem.W.nsIn K mainGlobals "InvalidCommand" = some (some (.ref c8)))
    (ac9 : PySem.W.nsIn K mainGlobals "NoMachine" = some (some (.ref c9)))
    (acL : PySem.W.nsIn K mainGlobals "LoopError" = some (some (.ref cL)))
    (n0 : PySem.W.findIn K (.ref c0) "part" = some none) (i0 : PySem.W.findIn K (.ref c0) "__init__" = some (some (.ref e0))) (t0 : PySem.W.typeIn K (.ref e0) = some (.type "function"))
    (x0 : K.lookup e0 = some ⟨xoc0, xod0, .func (PySem.W.fnOf "__init__" "BadMachine.__init__" (iA "part" p10 p20) (iB "part" q10 q20 q30 q40) (iS "part") .none .none xdc0 xpm0 xan0 xcd0 xct0), xsl0⟩) (y0 : PySem.W.codeIn K xcd0 "BadMachine.__init__" = true)
    (n1 : PySem.W.findIn K (.ref c1) "part" = some none) (i1 : PySem.W.findIn K (.ref c1) "__init__" = some (some (.ref e1))) (t1 : PySem.W.typeIn K (.ref e1) = some (.type "function"))
    (x1 : K.lookup e1 = some ⟨xoc1, xod1, .func (PySem.W.fnOf "__init__" "BadExpression.__init__" (iA "part" p11 p21) (iB "part" q11 q21 q31 q41) (iS "part") .none .none xdc1 xpm1 xan1 xcd1 xct1), xsl1⟩) (y1 : PySem.W.codeIn K xcd1 "BadExpression.__init__" = true)
    (n2 : PySem.W.findIn K (.ref c2) "place" = some none) (i2 : PySem.W.findIn K (.ref c2) "__init__" = some (some (.ref e2))) (t2 : PySem.W.typeIn K (.ref e2) = some (.type "function"))
    (x2 : K.lookup e2 = some ⟨xoc2, xod2, .func (PySem.W.fnOf "__init__" "BadText.__init__" (iA "place" p12 p22) (iB "place" q12 q22 q32 q42) (iS "place") .none .none xdc2 xpm2 xan2 xcd2 xct2), xsl2⟩) (y2 : PySem.W.codeIn K xcd2 "BadText.__init__" = true)
    (n3 : PySem.W.findIn K (.ref c3) "letter" = some none) (i3 : PySem.W.findIn K (.ref c3) "__init__" = some (some (.ref e3))) (t3 : PySem.W.typeIn K (.ref e3) = some (.type "function"))
    (x3 : K.lookup e3 = some ⟨xoc3, xod3, .func (PySem.W.fnOf "__init__" "SharedLetter.__init__" (iA "letter" p13 p23) (iB "letter" q13 q23 q33 q43) (iS "letter") .none .none xdc3 xpm3 xan3 xcd3 xct3), xsl3⟩) (y3 : PySem.W.codeIn K xcd3 "SharedLetter.__init__" = true)
    (n4 : PySem.W.findIn K (.ref c4) "witness" = some none) (i4 : PySem.W.findIn K (.ref c4) "__init__" = some (some (.ref e4))) (t4 : PySem.W.typeIn K (.ref e4) = some (.type "function"))
    (x4 : K.lookup e4 = some ⟨xoc4, xod4, .func (PySem.W.fnOf "__init__" "NotReversible.__init__" (iA "witness" p14 p24) (iB "witness" q14 q24 q34 q44) (iS "witness") .none .none xdc4 xpm4 xan4 xcd4 xct4), xsl4⟩) (y4 : PySem.W.codeIn K xcd4 "NotReversible.__init__" = true)
    (n5 : PySem.W.findIn K (.ref c5) "levels" = some none) (i5 : PySem.W.findIn K (.ref c5) "__init__" = some (some (.ref e5))) (t5 : PySem.W.typeIn K (.ref e5) = some (.type "function"))
    (x5 : K.lookup e5 = some ⟨xoc5, xod5, .func (PySem.W.fnOf "__init__" "BadLevels.__init__" (iA "levels" p15 p25) (iB "levels" q15 q25 q35 q45) (iS "levels") .none .none xdc5 xpm5 xan5 xcd5 xct5), xsl5⟩) (y5 : PySem.W.codeIn K xcd5 "BadLevels.__init__" = true)
    (n6 : PySem.W.findIn K (.ref c6) "letter" = some none) (i6 : PySem.W.findIn K (.ref c6) "__init__" = some (some (.ref e6))) (t6 : PySem.W.typeIn K (.ref e6) = some (.type "function"))
    (x6 : K.lookup e6 = some ⟨xoc6, xod6, .func (PySem.W.fnOf "__init__" "NoMove.__init__" (iA "letter" p16 p26) (iB "letter" q16 q26 q36 q46) (iS "letter") .none .none xdc6 xpm6 xan6 xcd6 xct6), xsl6⟩) (y6 : PySem.W.codeIn K xcd6 "NoMove.__init__" = true)
    (bc7 : PySem.W.findIn K (.ref c7) "__init__" = some (some (.builtin "Exception.__init__")))
    (bc8 : PySem.W.findIn K (.ref c8) "__init__" = some (some (.builtin "Exception.__init__")))
    (bc9 : PySem.W.findIn K (.ref c9) "__init__" = some (some (.builtin "Exception.__init__")))
    (bcL : PySem.W.findIn K (.ref cL) "__init__" = some (some (.builtin "Exception.__init__")))
    (hall : allB K [c0, c1, c2, c3, c4, c5, c6, c7, c8, c9] cL = true)
    (g0 : PySem.W.nsIn K mainGlobals "_law_deck" = some (some (.ref f0))) (l0 : K.lookup f0 = some ⟨oc0, od0, .func (PySem.W.fnOf "_law_deck" "_law_deck" (defArgs sDeck) (defBody sDeck) (defScope sDeck) .none kV0 dc0 pm0 an0 cd0 ct0), sl0⟩) (w0 : PySem.W.codeIn K cd0 "_law_deck" = true) (k0 : PySem.W.keepIn K (.ref f0) = true)
    (g1 : PySem.W.nsIn K mainGlobals "_law_draw" = some (some (.ref f1))) (l1 : K.lookup f1 = some ⟨oc1, od1, .func (PySem.W.fnOf "_law_draw" "_law_draw" (defArgs sDraw) (defBody sDraw) (defScope sDraw) .none kV1 dc1 pm1 an1 cd1 ct1), sl1⟩) (w1 : PySem.W.codeIn K cd1 "_law_draw" = true) (k1 : PySem.W.keepIn K (.ref f1) = true)
    (g2 : PySem.W.nsIn K mainGlobals "_law_pick" = some (some (.ref f2))) (l2 : K.lookup f2 = some ⟨oc2, od2, .func (PySem.W.fnOf "_law_pick" "_law_pick" (defArgs sPick) (defBody sPick) (defScope sPick) .none kV2 dc2 pm2 an2 cd2 ct2), sl2⟩) (w2 : PySem.W.codeIn K cd2 "_law_pick" = true) (k2 : PySem.W.keepIn K (.ref f2) = true)
    (g3 : PySem.W.nsIn K mainGlobals "_law_made" = some (some (.ref f3))) (l3 : K.lookup f3 = some ⟨oc3, od3, .func (PySem.W.fnOf "_law_made" "_law_made" (defArgs sMade) (defBody sMade) (defScope sMade) .none kV3 dc3 pm3 an3 cd3 ct3), sl3⟩) (w3 : PySem.W.codeIn K cd3 "_law_made" = true) (k3 : PySem.W.keepIn K (.ref f3) = true)
    (g4 : PySem.W.nsIn K mainGlobals "_law_kinds" = some (some (.ref f4))) (l4 : K.lookup f4 = some ⟨oc4, od4, .func (PySem.W.fnOf "_law_kinds" "_law_kinds" (defArgs sKinds) (defBody sKinds) (defScope sKinds) .none kV4 dc4 pm4 an4 cd4 ct4), sl4⟩) (w4 : PySem.W.codeIn K cd4 "_law_kinds" = true) (k4 : PySem.W.keepIn K (.ref f4) = true)
    (g5 : PySem.W.nsIn K mainGlobals "_law_kept" = some (some (.ref f5))) (l5 : K.lookup f5 = some ⟨oc5, od5, .func (PySem.W.fnOf "_law_kept" "_law_kept" (defArgs sKept) (defBody sKept) (defScope sKept) .none kV5 dc5 pm5 an5 cd5 ct5), sl5⟩) (w5 : PySem.W.codeIn K cd5 "_law_kept" = true) (k5 : PySem.W.keepIn K (.ref f5) = true)
    (g6 : PySem.W.nsIn K mainGlobals "_law_is_usual" = some (some (.ref f6))) (l6 : K.lookup f6 = some ⟨oc6, od6, .func (PySem.W.fnOf "_law_is_usual" "_law_is_usual" (defArgs sUsual) (defBody sUsual) (defScope sUsual) .none kV6 dc6 pm6 an6 cd6 ct6), sl6⟩) (w6 : PySem.W.codeIn K cd6 "_law_is_usual" = true) (k6 : PySem.W.keepIn K (.ref f6) = true)
    (g7 : PySem.W.nsIn K mainGlobals "_law_caught" = some (some (.ref f7))) (l7 : K.lookup f7 = some ⟨oc7, od7, .func (PySem.W.fnOf "_law_caught" "_law_caught" (defArgs sCaught) (defBody sCaught) (defScope sCaught) .none kV7 dc7 pm7 an7 cd7 ct7), sl7⟩) (w7 : PySem.W.codeIn K cd7 "_law_caught" = true) (k7 : PySem.W.keepIn K (.ref f7) = true)
    (g8 : PySem.W.nsIn K mainGlobals "law" = some (some (.ref f8))) (l8 : K.lookup f8 = some ⟨oc8, od8, .func (PySem.W.fnOf "law" "law" (defArgs sLaw) (defBody sLaw) (defScope sLaw) .none kV8 dc8 pm8 an8 cd8 ct8), sl8⟩) (w8 : PySem.W.codeIn K cd8 "law" = true) (k8 : PySem.W.keepIn K (.ref f8) = true)
    (zlen : PySem.W.nsIn K mainGlobals "len" = some none)
    (zint : PySem.W.nsIn K mainGlobals "int" = some none)
    (zrange : PySem.W.nsIn K mainGlobals "range" = some none)
    (zisi : PySem.W.nsIn K mainGlobals "isinstance" = some none)
    (zrep : PySem.W.nsIn K mainGlobals "repr" = some none)
    (zeEx : PySem.W.nsIn K mainGlobals "Exception" = some none)
    (zeVa : PySem.W.nsIn K mainGlobals "ValueError" = some none)
    (zeLo : PySem.W.nsIn K mainGlobals "LookupError" = some none)
    (zeTy : PySem.W.nsIn K mainGlobals "TypeError" = some none)
    (zeAr : PySem.W.nsIn K mainGlobals "ArithmeticError" = some none)
    (zeRu : PySem.W.nsIn K mainGlobals "RuntimeError" = some none)
    : ∃ fd : FuncData, (∀ (s : Shared) (v : Value), BindsTo s fd ⟨[v], []⟩ [("_law_script", v)]) ∧ ∀ base : Heap, K.In base → base.Ns mainGlobals mg → FnG l.prog w K mg base CX0 3 fa fd ["_law_script"] (spLaw K) := by
  have e := hfa.symm.trans (PySem.W.mg_of X G g8)
  cases e
  obtain ⟨kL, at_⟩ := allB_at hall
  have u0 : EcI K c0 e0 "part" := ⟨n0, i0, t0, by decide, by decide, ⟨_, _, _, _, _, _, _, _, _, _, _, _, _, _, _, x0, y0⟩, fun _ _ _ _ _ _ _ _ _ _ _ _ _ _ => rfl, fun _ _ _ _ _ _ _ _ _ _ _ _ _ _ => rfl⟩
  have u1 : EcI K c1 e1 "part" := ⟨n1, i1, t1, by decide, by decide, ⟨_, _, _, _, _, _, _, _, _, _, _, _, _, _, _, x1, y1⟩, fun _ _ _ _ _ _ _ _ _ _ _ _ _ _ => rfl, fun _ _ _ _ _ _ _ _ _ _ _ _ _ _ => rfl⟩
  have u2 : EcI K c2 e2 "place" := ⟨n2, i2, t2, by decide, by decide, ⟨_, _, _, _, _, _, _, _, _, _, _, _, _, _, _, x2, y2⟩, fun _ _ _ _ _ _ _ _ _ _ _ _ _ _ => rfl, fun _ _ _ _ _ _ _ _ _ _ _ _ _ _ => rfl⟩
  have u3 : EcI K c3 e3 "letter" := ⟨n3, i3, t3, by decide, by decide, ⟨_, _, _, _, _, _, _, _, _, _, _, _, _, _, _, x3, y3⟩, fun _ _ _ _ _ _ _ _ _ _ _ _ _ _ => rfl, fun _ _ _ _ _ _ _ _ _ _ _ _ _ _ => rfl⟩
  have u4 : EcI K c4 e4 "witness" := ⟨n4, i4, t4, by decide, by decide, ⟨_, _, _, _, _, _, _, _, _, _, _, _, _, _, _, x4, y4⟩, fun _ _ _ _ _ _ _ _ _ _ _ _ _ _ => rfl, fun _ _ _ _ _ _ _ _ _ _ _ _ _ _ => rfl⟩
  have u5 : EcI K c5 e5 "levels" := ⟨n5, i5, t5, by decide, by decide, ⟨_, _, _, _, _, _, _, _, _, _, _, _, _, _, _, x5, y5⟩, fun _ _ _ _ _ _ _ _ _ _ _ _ _ _ => rfl, fun _ _ _ _ _ _ _ _ _ _ _ _ _ _ => rfl⟩
  have u6 : EcI K c6 e6 "letter" := ⟨n6, i6, t6, by decide, by decide, ⟨_, _, _, _, _, _, _, _, _, _, _, _, _, _, _, x6, y6⟩, fun _ _ _ _ _ _ _ _ _ _ _ _ _ _ => rfl, fun _ _ _ _ _ _ _ _ _ _ _ _ _ _ => rfl⟩
  have T : Txt K mg (fun i => ([c0, c1, c2, c3, c4, c5, c6, c7, c8, c9] : List Addr).getD i 0) (fun i => ([e0, e1, e2, e3, e4, e5, e6] : List Addr).getD i 0) cL := {
    k := fun i hi => (at_ i hi).1
    u := fun i hi => match i, hi with
      | 0, _ => u0
      | 1, _ => u1
      | 2, _ => u2
      | 3, _ => u3
      | 4, _ => u4
      | 5, _ => u5
      | 6, _ => u6
    b := fun i h1 h2 => match i, h1, h2 with
      | 7, _, _ => bc7
      | 8, _, _ => bc8
      | 9, _, _ => bc9
    kL := kL
    bL := bcL
    g0 := PySem.W.mg_of X G ac0
    g1 := PySem.W.mg_of X G ac1
    g2 := PySem.W.mg_of X G ac2
    g3 := PySem.W.mg_of X G ac3
    g4 := PySem.W.mg_of X G ac4
    g5 := PySem.W.mg_of X G ac5
    g6 := PySem.W.mg_of X G ac6
    g7 := PySem.W.mg_of X G ac7
    g8 := PySem.W.mg_of X G ac8
    g9 := PySem.W.mg_of X G ac9
    gL := PySem.W.mg_of X G acL
    kit := fun i j hi hj => (at_ i hi).2.1 j hj
    kitL := fun j hj => (at_ j hj).2.2.2.2.2.2
    isL := fun i hi => (at_ i hi).2.2.1
    isE := fun i hi => (at_ i hi).2.2.2.1
    us := fun i n hi hn => (at_ i hi).2.2.2.2.1 n hn
    ex := fun i hi => (at_ i hi).2.2.2.2.2.1
    len := PySem.W.mg_none_of X G zlen
    int := PySem.W.mg_none_of X G zint
    range := PySem.W.mg_none_of X G zrange
    isi := PySem.W.mg_none_of X G zisi
    rep := PySem.W.mg_none_of X G zrep
    eEx := PySem.W.mg_none_of X G zeEx
    eVa := PySem.W.mg_none_of X G zeVa
    eLo := PySem.W.mg_none_of X G zeLo
    eTy := PySem.W.mg_none_of X G zeTy
    eAr := PySem.W.mg_none_of X G zeAr
    eRu := PySem.W.mg_none_of X G zeRu }
  have F0 := fun_mk (st := sDeck) l0 w0 k0
  have B0 := F0.binds (ps := ["_law_script"]) fun _ _ _ _ _ _ us hl => match us, hl with | [_], _ => rfl
  have F1 := fun_mk (st := sDraw) l1 w1 k1
  have B1 := F1.binds (ps := ["_law_deck_here", "_law_below"]) fun _ _ _ _ _ _ us hl => match us, hl with | [_, _], _ => rfl
  have F2 := fun_mk (st := sPick) l2 w2 k2
  have B2 := F2.binds (ps := ["_law_deck_here", "_law_menu"]) fun _ _ _ _ _ _ us hl => match us, hl with | [_, _], _ => rfl
  have F3 := fun_mk (st := sMade) l3 w3 k3
  have B3 := F3.binds (ps := ["_law_at", "_law_it"]) fun _ _ _ _ _ _ us hl => match us, hl with | [_, _], _ => rfl
  have F4 := fun_mk (st := sKinds) l4 w4 k4
  have B4 := F4.binds (ps := ["_law_e"]) fun _ _ _ _ _ _ us hl => match us, hl with | [_], _ => rfl
  have F5 := fun_mk (st := sKept) l5 w5 k5
  have B5 := F5.binds (ps := ["_law_at", "_law_e"]) fun _ _ _ _ _ _ us hl => match us, hl with | [_, _], _ => rfl
  have F6 := fun_mk (st := sUsual) l6 w6 k6
  have B6 := F6.binds (ps := ["_law_e"]) fun _ _ _ _ _ _ us hl => match us, hl with | [_], _ => rfl
  have F7 := fun_mk (st := sCaught) l7 w7 k7
  have B7 := F7.binds (ps := ["_law_at", "_law_it"]) fun _ _ _ _ _ _ us hl => match us, hl with | [_, _], _ => rfl
  have F8 := fun_mk (st := sLaw) l8 w8 k8
  exact ⟨PySem.W.fnOf "law" "law" (defArgs sLaw) (defBody sLaw) (defScope sLaw) .none kV8 dc8 pm8 an8 cd8 ct8, fun s v => .of_eq rfl, fun base _ _ => ok_law F8 T F0 (PySem.W.mg_of X G g0) B0 F1 (PySem.W.mg_of X G g1) B1 F2 (PySem.W.mg_of X G g2) B2 F3 (PySem.W.mg_of X G g3) B3 F4 (PySem.W.mg_of X G g4) B4 F5 (PySem.W.mg_of X G g5) B5 F6 (PySem.W.mg_of X G g6) B6 F7 (PySem.W.mg_of X G g7) B7⟩
end Vk
set_option Elab.async false
open PySem PySem.W PyProof.Rows
set_option maxRecDepth 100000 in
set_option maxHeartbeats 0 in
theorem PySem.Challenge.cw_loopsdeep_k01_errors_holds : PySem.Challenge.rw_loopsdeep_k01_errors.Holds := by
  w_on; o_law; k_head; (case hw => w_witness2)
  k_fill
  refine Vk.walkG (l := PySem.Challenge.rw_loopsdeep_k01_errors) (n := 63) (k := 3) (x := "_law_script") (CX := fun _ => L2.CX0) (sp := fun w => Vk.spLaw _) rfl (by decide) rfl ⟨rfl, by decide, by decide⟩ (fun w h Y => PySem.W.kIn_of Y) ?F (fun _ _ a ns hl _ hS => ⟨a, ns, rfl, hS, hl, fun _ => rfl⟩) (fun _ _ _ _ _ z => z)
  case F =>
    intro w mg fa h KX G hmg
    refine' Vk.all_mk KX G hmg ?v_ac0 ?v_ac1 ?v_ac2 ?v_ac3 ?v_ac4 ?v_ac5 ?v_ac6 ?v_ac7 ?v_ac8 ?v_ac9 ?v_acL ?v_n0 ?v_i0 ?v_t0 ?v_x0 ?v_y0 ?v_n1 ?v_i1 ?v_t1 ?v_x1 ?v_y1 ?v_n2 ?v_i2 ?v_t2 ?v_x2 ?v_y2 ?v_n3 ?v_i3 ?v_t3 ?v_x3 ?v_y3 ?v_n4 ?v_i4 ?v_t4 ?v_x4 ?v_y4 ?v_n5 ?v_i5 ?v_t5 ?v_x5 ?v_y5 ?v_n6 ?v_i6 ?v_t6 ?v_x6 ?v_y6 ?v_bc7 ?v_bc8 ?v_bc9 ?v_bcL ?v_hall ?v_g0 ?v_l0 ?v_w0 ?v_k0 ?v_g1 ?v_l1 ?v_w1 ?v_k1 ?v_g2 ?v_l2 ?v_w2 ?v_k2 ?v_g3 ?v_l3 ?v_w3 ?v_k3 ?v_g4 ?v_l4 ?v_w4 ?v_k4 ?v_g5 ?v_l5 ?v_w5 ?v_k5 ?v_g6 ?v_l6 ?v_w6 ?v_k6 ?v_g7 ?v_l7 ?v_w7 ?v_k7 ?v_g8 ?v_l8 ?v_w8 ?v_k8 ?v_zlen ?v_zint ?v_zrange ?v_zisi ?v_zrep ?v_zeEx ?v_zeVa ?v_zeLo ?v_zeTy ?v_zeAr ?v_zeRu
    (case v_ac0 => k_is)
    (case v_ac1 => k_is)
    (case v_ac2 => k_is)
    (case v_ac3 => k_is)
    (case v_ac4 => k_is)
    (case v_ac5 => k_is)
    (case v_ac6 => k_is)
    (case v_ac7 => k_is)
    (case v_ac8 => k_is)
    (case v_ac9 => k_is)
    (case v_acL => k_is)
    (case v_n0 => k_is)
    (case v_i0 => k_is)
    (case v_t0 => k_is)
    (case v_x0 => k_is)
    (case v_y0 => k_is)
    (case v_n1 => k_is)
    (case v_i1 => k_is)
    (case v_t1 => k_is)
    (case v_x1 => k_is)
    (case v_y1 => k_is)
    (case v_n2 => k_is)
    (case v_i2 => k_is)
    (case v_t2 => k_is)
    (case v_x2 => k_is)
    (case v_y2 => k_is)
    (case v_n3 => k_is)
    (case v_i3 => k_is)
    (case v_t3 => k_is)
    (case v_x3 => k_is)
    (case v_y3 => k_is)
    (case v_n4 => k_is)
    (case v_i4 => k_is)
    (case v_t4 => k_is)
    (case v_x4 => k_is)
    (case v_y4 => k_is)
    (case v_n5 => k_is)
    (case v_i5 => k_is)
    (case v_t5 => k_is)
    (case v_x5 => k_is)
    (case v_y5 => k_is)
    (case v_n6 => k_is)
    (case v_i6 => k_is)
    (case v_t6 => k_is)
    (case v_x6 => k_is)
    (case v_y6 => k_is)
    (case v_bc7 => k_is)
    (case v_bc8 => k_is)
    (case v_bc9 => k_is)
    (case v_bcL => k_is)
    (case v_hall => kernel_rfl)
    (case v_g0 => k_is)
    (case v_l0 => k_is)
    (case v_w0 => k_is)
    (case v_k0 => k_is)
    (case v_g1 => k_is)
    (case v_l1 => k_is)
    (case v_w1 => k_is)
    (case v_k1 => k_is)
    (case v_g2 => k_is)
    (case v_l2 => k_is)
    (case v_w2 => k_is)
    (case v_k2 => k_is)
    (case v_g3 => k_is)
    (case v_l3 => k_is)
    (case v_w3 => k_is)
    (case v_k3 => k_is)
    (case v_g4 => k_is)
    (case v_l4 => k_is)
    (case v_w4 => k_is)
    (case v_k4 => k_is)
    (case v_g5 => k_is)
    (case v_l5 => k_is)
    (case v_w5 => k_is)
    (case v_k5 => k_is)
    (case v_g6 => k_is)
    (case v_l6 => k_is)
    (case v_w6 => k_is)
    (case v_k6 => k_is)
    (case v_g7 => k_is)
    (case v_l7 => k_is)
    (case v_w7 => k_is)
    (case v_k7 => k_is)
    (case v_g8 => k_is)
    (case v_l8 => k_is)
    (case v_w8 => k_is)
    (case v_k8 => k_is)
    (case v_zlen => k_is)
    (case v_zint => k_is)
    (case v_zrange => k_is)
    (case v_zisi => k_is)
    (case v_zrep => k_is)
    (case v_zeEx => k_is)
    (case v_zeVa => k_is)
    (case v_zeLo => k_is)
    (case v_zeTy => k_is)
    (case v_zeAr => k_is)
    (case v_zeRu => k_is)
#print axioms PySem.Challenge.cw_loopsdeep_k01_errors_holds
