import PyProof.Rows.All
import Wide.All
import OpenK.AllK
import Wide.FinOn
import HandS.ForMost
import HandS.IsInst
import HandS.Property
import HandS.OwnEq
import HandS.Star
import HandS.ClsMeth
import HandS.Codes
import HandS.Zip
import HandS.WideBits
import HandS.Evl
import HandS.Defaults
import HandS.Strs
import HandS.Walk
import HandS.Style
import HandS.FStr
import KE.KOpsOwn
import HandS.FStrTup
import HandS.Conv
import PyProof.InstEq
import PySem.Challenge.RW_lanelots_k16_whole_nets_turned_and_joine
set_option Elab.async false
set_option linter.all false
set_option maxRecDepth 100000
set_option maxHeartbeats 4000000
namespace LL
open PySem L2 PySem.Spec PyProof.Rows
/-! ### promises that hold where no guard stands (or a known one) -/
/-- what is promised of a def, wherever Γ holds of what is under way -/
structure FnQ (Γ : Around → Prop) (P : Program) (w : World) (K : PySem.W.Frag) (mg : Str → Option Value) (base : Heap) (k : Nat) (f : Addr) (fd : FuncData) (ps : List Str) (sp : Sp) : Prop where
  cnt : ∀ xs G R J, sp xs G R J → xs.length = ps.length
  go : ∀ (B : Around) (envs : List Env) (t : Shared) (G : Hp) (ar : Args) (is : List Value) (xs : List V) (R : VK) (J : XK), Room k B → Γ B → Env0 P w K mg base B envs t G → BindsTo t fd ar (ps.zip is) → Vals xs is → sp xs G R J →
    codeAny (model P w) B (.call (.ref f) ar) (CR C8.CX0 envs P w G t R J) t
abbrev NoG (A : Around) : Prop := A.guards = some []
section
variable {Γ : Around → Prop} {P : Program} {w : World} {K : PySem.W.Frag} {mg : Str → Option Value} {base : Heap}
theorem fnQ0 (hΓ : ∀ A env, Γ A → Γ (A.deeper env)) {x qual : Str} {st : Stmt} {f : Addr} {fd : FuncData} {N ps : List Str} {k : Nat} {sp : Sp} (F : C8.Fun K x qual st f fd) (S : FnScope N ps (C8.fnScope st)) (cnt : ∀ xs G R J, sp xs G R J → xs.length = ps.length)
    (body : ∀ (cdv : Value) (B : Around) (envs : List Env) (t : Shared) (G : Hp) (xs : List V) (R : VK) (J : XK), Room k (B.deeper (envOfC qual (C8.fnScope st) t.heap.objs.size f cdv)) → Γ (B.deeper (envOfC qual (C8.fnScope st) t.heap.objs.size f cdv)) → sp xs G R J →
      ∃ u, PSs (cxOf C8.CX0 P w K mg base N qual (C8.fnScope st) f cdv B envs t G J).nox (C8.fnBody st) u ∧ u { nx := fun _ G' => R .non G', rt := R } (start N xs) G) : FnQ Γ P w K mg base (k + 1) f fd ps sp := by
  obtain ⟨oc, od, dV, kV, doc, pm, an, cdv, ct, osl, rfl, lk, hc⟩ := F.ex
  refine ⟨cnt, fun B envs t G ar is xs R J rm hB e0 hb r hs => ?_⟩
  have inK : K.In t.heap := e0.mod.kin.keeps fun b o e => (e0.bs b o e).1
  have free : t.heap.NoLimit := e0.mod.nolimit.keeps fun b o e => (e0.bs b o e).1
  refine codeAny_call_function rm.depth (inK _ _ lk) rfl S.co S.gen rfl (PySem.W.codeRec_of inK hc) (hb _ _ _ _ (wpAny_newFunctionEnv_cells S.kind (fun ⟨n, v⟩ hy => ?_) fun env he s1 z => ?_))
  · exact (S.par n (List.of_mem_zip hy).1).elim .inl fun q => .inr ⟨q, PySem.W.cellsFrom_some _ _ _ (.inl q)⟩
  subst he
  obtain ⟨u, hu, hq⟩ := body cdv B envs t G xs R J (rm.deeper _) (hΓ _ _ hB) hs
  refine ⟨free.keeps z.toInCall.keep, codeAny_func (wpAny_mono (hu.nox.run [] s1 (start N xs) G _ (inv_start S rm.hd e0 (cnt _ _ _ _ hs) r z) hq) (fun fl s' q => ?_) fun _ _ q => q)⟩
  cases fl with
  | brk => exact (q.choose_spec.choose_spec.2).elim
  | cont => exact (q.choose_spec.choose_spec.2).elim
  | next =>
    obtain ⟨_, G', I, q⟩ := q
    exact ⟨V.non, G', I.os, I.bare, I.base, I.hok, rfl, q⟩
  | ret v =>
    obtain ⟨v', _, G', I, rv, q⟩ := q
    exact ⟨v', G', I.os, I.bare, I.base, I.hok, rv, q⟩
theorem fnQ_of {k : Nat} {f : Addr} {fd : FuncData} {ps : List Str} {sp : Sp} (F : FnOk P w K mg base C8.CX0 k f fd ps sp) : FnQ Γ P w K mg base k f fd ps sp :=
  ⟨F.len, fun B envs t G ar is xs R J rm _ e0 hb r hs => F.run B envs t G ar is xs R J rm e0 hb r hs⟩
/-- a def of the module that is promised so -/
structure CalQ (Γ : Around → Prop) (P : Program) (w : World) (K : PySem.W.Frag) (mg : Str → Option Value) (base : Heap) (k : Nat) (x : Str) (sp : Sp) : Prop where
  ex : ∃ (f : Addr) (fd : FuncData) (ps : List Str), FnQ Γ P w K mg base k f fd ps sp ∧ mg x = some (.ref f) ∧ PySem.W.keepIn K (.ref f) = true ∧ Binds K fd ps []
end
section
variable {Γ : Around → Prop} {X : Cx} {k j : Nat} {x : Str} {sp : Sp} {f : Addr} {fd : FuncData} {ps : List Str} {p pos : Pos} {e : Expr} {es : List Expr} {t : TA}
theorem runQ {pins : List (Addr × Obj)} {σ : L2.St} {G : Hp} {s : Shared} {R : VK} {is : List Value} {xs : List V} (F : FnQ Γ X.prog X.w X.K X.mg X.base k f fd ps sp) (rm : Room k X.A) (hA : Γ X.A) (hb : Binds X.K fd ps []) (I : Inv X pins σ G s) (r : Vals xs is) (hs : sp xs G R C8.E0) :
    wpAny (model X.prog X.w) X.A (call (.ref f) is) (EP X pins σ R) X.xe s := by
  have hl : (is ++ []).length = ps.length := by rw [List.append_nil, ← r.length]; exact F.cnt _ _ _ _ hs
  have b := hb s is I.kIn hl
  rw [List.append_nil] at b
  refine wpAny_call (codeAny_mono (F.go X.A X.stack s G ⟨is, []⟩ is xs R C8.E0 rm hA I.env0 b r hs) fun z s' q => ?_)
  match z, q with
  | .error _, q => exact q.elim
  | .ok (.ret v), q => exact I.after q
theorem pe_cQ (c : CalQ Γ X.prog X.w X.K X.mg X.base k x sp) (rm : Room j X.A) (hk : k ≤ j) (hA : Γ X.A) (hg : Gl X x) (ha : PA X (e :: es) t)
    (hdb : (x == ("__debug__" : Str)) = false := by decide) (he : starEach (e :: es) X.env = (false, eval e X.env) :: starEach es X.env := by rfl) (hpl : (backTo pos (starEach es X.env)).any (·.1) = false := by rfl) :
    PE X (.Call (.Name x p) (e :: es) [] pos) (tCall sp [] C8.E0 t) := by
  obtain ⟨f, fd, ps, F, hm, kp, b⟩ := c.ex
  refine ⟨fun pins s σ G R I h => wpAny_Call_Name_kw (ld_glob I hg hm ?_ hdb)⟩
  refine PySem.W.callWith_K (h₀ := X.base) I.ok.mod.kin kp (thn (ha.run pos pins s σ G _ I h) fun is s1 ⟨xs, G1, I1, r, q⟩ => ⟨I1.kIn, ?_⟩) he hpl
  have q' : sp (xs ++ []) G1 R C8.E0 := q
  rw [List.append_nil] at q'
  exact runQ F (rm.mono hk) hA b I1 r q'
end
theorem noG_deep (A : Around) (env : Env) (h : NoG A) : NoG (A.deeper env) := h
/-! ### the end of a law whose promise is of that kind -/
section
variable {P : Program} {w : World} {K : PySem.W.Frag} {mg mb : Str → Option Value} {k : Nat} {fa a : Addr} {fd : FuncData} {x : Str} {sp : Sp} {t : Shared} {vs : List Value} {ns : List Int}
/-- the one object that may be known at the entry: the script -/
def one (a : Addr) (o : HO) : Hp := fun b => if b = a then some o else none
theorem one_at {a : Addr} {o : HO} : one a o a = some o := if_pos rfl
theorem one_ne {a b : Addr} {o : HO} (n : b ≠ a) : one a o b = none := if_neg n
theorem entryQ (inK : K.In t.heap) (hns : t.heap.Ns mainGlobals mg) (hb : t.heap.Ns builtinsNs mb) (hbb : ∀ x : Str, x ≠ "__name__" → mb x = bootBuiltins x) (free : t.heap.NoLimit) (hg : t.gens = #[]) (rm : Room k callerA)
    (F : ∀ base : Heap, K.In base → base.Ns mainGlobals mg → FnQ NoG P w K mg base k fa fd [x] sp) (bd : ∀ (s : Shared) (u : Value), BindsTo s fd ⟨[u], []⟩ [(x, u)])
    {G : Hp} (only : Only G) (ok : HOk P w G t.heap) (hs : sp [.ref a] G (fun v _ => v = .bl true) C8.E0) (ob : ∃ v : Value, ∃ dx : Array Value, ∃ n, v = .ref a ∧ (∀ b, G b ≠ none → b = a) ∧ t.heap.get? a = some { cls := .type "list", data := .seq dx n }) (off : G a ≠ none → K.lookup a = none) :
    codeAny (model P w) callerA (.call (.ref fa) ⟨[.ref a], []⟩) (fun r s' => r = .ok (.ret (.bool true)) ∧ OldK t.heap s'.heap ∧ s'.os = t.os ∧ AllBare s'.gens) t := by
  obtain ⟨_, dx, n, _, un, ha⟩ := ob
  have stays : ∀ {b o}, t.heap.get? b = some o → G b = none → (hidT t.heap G).get? b = some o := fun e h => hidT_get e h
  have away : ∀ {b : Addr} {m : Str → Option Value}, t.heap.Ns b m → (hidT t.heap G).Ns b m := fun {b m} ⟨o, es, ep, e, d, r⟩ => by
    refine ⟨o, es, ep, stays e ?_, d, r⟩
    match q : G b with
    | none => rfl
    | some u =>
      obtain rfl : b = a := un b (by rw [q]; exact nofun)
      rw [ha] at e
      cases e
      cases d
  have inB : K.In (hidT t.heap G) := fun b o e => by
    refine stays (inK b o e) ?_
    match q : G b with
    | none => rfl
    | some u =>
      obtain rfl : b = a := un b (by rw [q]; exact nofun)
      rw [off (by rw [q]; exact nofun)] at e
      cases e
  obtain ⟨mc, f1, f2⟩ := free
  have md : Mod K mg (hidT t.heap G) := ⟨inB, away hns, ⟨mb, away hb, hbb⟩, mc, away f1, f2⟩
  have env : Env0 P w K mg (hidT t.heap G) callerA [] t G := ⟨rfl, md, fun b o e => of_hidT e, Nat.le_of_eq (hidT_size _ _), trivial, (fun b h => by cases h), ok, .of_eq hg⟩
  refine codeAny_mono ((F _ inB (away hns)).go callerA [] t G ⟨[.ref a], []⟩ [.ref a] [.ref a] _ _ rm rfl env (bd t (.ref a)) (.cons rfl .nil) hs) fun r s' h => ?_
  match r, h with
  | .error _, h => exact h.elim
  | .ok (.ret u), h =>
    obtain ⟨v, G', os, bare, un', ok', rv, q⟩ := h
    obtain rfl : v = .bl true := q
    obtain rfl : u = Value.bool true := rv
    refine ⟨rfl, OldK.of_keep fun b o e => ?_, os, bare⟩
    rcases only b with z | ⟨ob, xs, z⟩
    · exact un'.keep b o e z (fun h => by cases h) (fun h => by cases h)
    · obtain ⟨e1, _⟩ := ok b _ z
      obtain ⟨e2, _⟩ := ok' b _ (un'.frzs b ob _ z)
      rw [e] at e1
      cases e1
      exact e2
theorem entryQ' (inK : K.In t.heap) (hns : t.heap.Ns mainGlobals mg) (hb : t.heap.Ns builtinsNs mb) (hbb : ∀ x : Str, x ≠ "__name__" → mb x = bootBuiltins x) (free : t.heap.NoLimit) (hg : t.gens = #[]) (rm : Room k callerA)
    (F : ∀ base : Heap, K.In base → base.Ns mainGlobals mg → FnQ NoG P w K mg base k fa fd [x] sp) (bd : ∀ (s : Shared) (u : Value), BindsTo s fd ⟨[u], []⟩ [(x, u)])
    (ha : t.heap.get? a = some { cls := .type "list", data := .seq vs.toArray }) (hi : IntsAre vs ns) (hl : ns.length ≤ sizeLine) (hs : ∀ G : Hp, SqL K G a (ns.map V.int) → sp [.ref a] G (fun v _ => v = .bl true) C8.E0) :
    codeAny (model P w) callerA (.call (.ref fa) ⟨[.ref a], []⟩) (fun r s' => r = .ok (.ret (.bool true)) ∧ OldK t.heap s'.heap ∧ s'.os = t.os ∧ AllBare s'.gens) t := by
  match hk : K.lookup a with
  | some o =>
    have e := inK a o hk
    rw [ha] at e
    cases e
    exact entryQ inK hns hb hbb free hg rm F bd (G := fun _ => none) (fun _ => .inl rfl) (fun b u z => by cases z) (hs _ (.inr ⟨_, vs.toArray, _, hk, rfl, rfl, rfl, by rw [List.size_toArray, hi.length]; exact hl, vals_ints hi⟩)) ⟨_, _, _, rfl, fun b z => absurd rfl z, ha⟩ fun z => absurd rfl z
  | none =>
    refine entryQ inK hns hb hbb free hg rm F bd (G := one a (.frz { cls := .type "list", data := .seq vs.toArray } (.lst (ns.map V.int)))) (fun b => ?_) (fun b u z => ?_) (hs _ (.inl (.inr ⟨_, one_at⟩))) ⟨_, _, _, rfl, fun b z => ?_, ha⟩ fun _ => hk
    · by_cases h : b = a
      · exact .inr ⟨_, _, by rw [h]; exact one_at⟩
      · exact .inl (one_ne h)
    · by_cases h : b = a
      · subst h
        obtain rfl := Option.some.inj (one_at.symm.trans z)
        exact ⟨ha, by rw [List.length_map]; exact hl, vs, _, vals_ints hi, ha⟩
      · rw [one_ne h] at z
        cases z
    · by_cases h : b = a
      · exact h
      · exact absurd (one_ne h) z
end
theorem walkQ {l : PySem.W.OpenLaw} {n k : Nat} {q : Program} {loose : List Str} {XP : (Str → Option Value) → Heap → Prop} {YP : World → Heap → Prop} {d : DefRec} {K : Params → PySem.W.Frag} {sp : PySem.W.Frag → Sp} {x : Str} (hn : l.most = some n) (hn2 : n ≤ sizeLine) (hdf : d.params.defaults = []) (rm : Room k callerA)
    (hY : ∀ (w : World) (h : Heap), YP w h → (K w.params).In h)
    (F : ∀ (w : World) (mg : Str → Option Value) (fa : Addr) (h : Heap), (K w.params).In h → h.Ns mainGlobals mg → mg d.name = some (.ref fa) →
      ∃ fd : FuncData, (∀ (s : Shared) (u : Value), BindsTo s fd ⟨[u], []⟩ [(x, u)]) ∧ ∀ base : Heap, (K w.params).In base → base.Ns mainGlobals mg → FnQ NoG l.prog w (K w.params) mg base k fa fd [x] (sp (K w.params)))
    (hs : ∀ (K : PySem.W.Frag) (G : Hp) (a : Addr) (ns : List Int), ns.length ≤ n → SqL K G a (ns.map V.int) → sp K [.ref a] G (fun v _ => v = .bl true) C8.E0) :
    PySem.W.WalkO q loose XP YP l.row.toRowW d [] (fun f vs => PySem.call f vs) :=
  Att.attach_call hn hdf fun w s₀ t mg mb fa o pm cd doc a vs ns G Y _ _ _ hm ho hi hl hg => by
    obtain ⟨fd, bd, hF⟩ := F w mg fa _ (hY w _ Y) G.T.g hm
    exact entryQ' (hY w _ Y) G.T.g G.T.b G.T.builtins G.T.nolimit hg rm hF bd ho hi (Nat.le_trans hl hn2) fun G hS => hs _ G a ns hl hS
end LL

namespace LL
open PySem L2 PySem.Spec PyProof.Rows
/-! ### item by item -/
def All2 {α β : Type} (R : α → β → Prop) (xs : List α) (ys : List β) : Prop := xs.length = ys.length ∧ ∀ (i : Nat) (x : α) (y : β), xs[i]? = some x → ys[i]? = some y → R x y
theorem All2.mono {α β : Type} {R S : α → β → Prop} {xs : List α} {ys : List β} (h : ∀ x y, R x y → S x y) (a : All2 R xs ys) : All2 S xs ys := ⟨a.1, fun i x y h1 h2 => h x y (a.2 i x y h1 h2)⟩
theorem All2.get {α β : Type} {R : α → β → Prop} {xs : List α} {ys : List β} {i : Nat} {x : α} (a : All2 R xs ys) (h : xs[i]? = some x) : ∃ y, ys[i]? = some y ∧ R x y := by
  have hl := (List.getElem?_eq_some_iff.mp h).1
  rw [a.1] at hl
  exact ⟨ys[i], List.getElem?_eq_getElem hl, a.2 i x _ h (List.getElem?_eq_getElem hl)⟩
theorem All2.get' {α β : Type} {R : α → β → Prop} {xs : List α} {ys : List β} {i : Nat} {y : β} (a : All2 R xs ys) (h : ys[i]? = some y) : ∃ x, xs[i]? = some x ∧ R x y := by
  have hl := (List.getElem?_eq_some_iff.mp h).1
  rw [← a.1] at hl
  exact ⟨xs[i], List.getElem?_eq_getElem hl, a.2 i _ y (List.getElem?_eq_getElem hl) h⟩
theorem All2.nil {α β : Type} {R : α → β → Prop} : All2 R [] [] := ⟨rfl, fun i x y h _ => by simp at h⟩
theorem All2.snoc {α β : Type} {R : α → β → Prop} {xs : List α} {ys : List β} {x : α} {y : β} (a : All2 R xs ys) (h : R x y) : All2 R (xs ++ [x]) (ys ++ [y]) := by
  refine ⟨by rw [List.length_append, List.length_append, a.1]; rfl, fun i u v h1 h2 => ?_⟩
  rcases Nat.lt_trichotomy i xs.length with hi | hi | hi
  · rw [List.getElem?_append_left hi] at h1
    rw [List.getElem?_append_left (by rw [← a.1]; exact hi)] at h2
    exact a.2 i u v h1 h2
  · subst hi
    rw [List.getElem?_concat_length] at h1
    rw [a.1, List.getElem?_concat_length] at h2
    rw [← Option.some.inj h1, ← Option.some.inj h2]
    exact h
  · rw [List.getElem?_eq_none (by rw [List.length_append, List.length_singleton]; omega)] at h1
    cases h1
end LL

namespace LL
open PySem L2 PySem.Spec PyProof.Rows
/-! ### repr(..) of data -/
section
variable {X : Cx}
def rRepr (K : PySem.W.Frag) : List V → Hp → VK → Prop := fun xs H Q => ∃ (a : Addr) (d : PyData), xs = [V.ref a] ∧ Dp K H (.ref a) d ∧ d.showable = true ∧ d.hasDict = false ∧ d.depth ≤ 60 ∧ d.shown.length ≤ sizeLine ∧ Q (.str d.shown) H
theorem call_repr (hg : NoG X.A) (hu : X.A.units + 100 < cLine) : CallR X (.builtin "repr") (rRepr X.K) := by
  intro pins s σ H xs us Q I r h
  obtain ⟨a, d, rfl, hd, h1, h2, h3, h4, q⟩ := h
  obtain ⟨u, rfl, ru⟩ := vals1 r
  cases ru
  obtain ⟨as, hr⟩ := Dp.reads I d _ _ hd rfl
  exact repr_of_reads' (h₀ := s.heap) hr h1 (fun z => absurd (h2.symm.trans z) nofun) hg (by omega) (fun _ _ e => e) (fun h' u tk hk => ⟨.str _, H, I.kept hk, ⟨u, rfl⟩, q⟩) h4
/-! ### what is no data -/
/-- a list in which an object of a class stands -/
def Odd (H : Hp) (a : Addr) : Prop := ∃ p C dx fs xs, H a = some (.lst xs) ∧ V.ref p ∈ xs ∧ H p = some (.ins C dx fs)
theorem readsAll_mem {h : Heap} {v : Value} : ∀ {l : List Value} {ds : List PyData} {as : List Addr}, ReadsAll h l ds as → v ∈ l → ∃ d bs, Reads h v d bs
  | _, _, _, .cons r rs, hv => (List.mem_cons.mp hv).elim (fun e => ⟨_, _, e ▸ r⟩) fun e => readsAll_mem rs e
theorem vals_mem {p : Addr} : ∀ {xs : List V} {its : List Value}, Vals xs its → V.ref p ∈ xs → Value.ref p ∈ its
  | _, _, .cons r rs, hv => (List.mem_cons.mp hv).elim (fun e => by
      subst e
      cases r
      exact List.mem_cons_self) fun e => List.mem_cons_of_mem _ (vals_mem rs e)
theorem odd_reads {pins : List (Addr × Obj)} {σ : L2.St} {H : Hp} {s : Shared} (I : Inv X pins σ H s) {a : Addr} (o : Odd H a) {d : PyData} {as : List Addr} (r : Reads s.heap (.ref a) d as) : False := by
  obtain ⟨p, C, dx, fs, xs, ha, hm, hp⟩ := o
  obtain ⟨_, its, n, rv, e⟩ := I.hok a _ ha
  obtain ⟨mA, J, _⟩ := ins_get I.hok hp
  obtain ⟨od, J, _⟩ := J.look
  have noP : ∀ {d as}, ¬ Reads s.heap (.ref p) d as := fun r => by
    cases r with
    | list h1 h2 => rw [J.at_] at h1; cases h1; rw [J.cls] at h2; cases h2
    | tuple h1 h2 => rw [J.at_] at h1; cases h1; rw [J.cls] at h2; cases h2
    | dict h1 h2 => rw [J.at_] at h1; cases h1; rw [J.cls] at h2; cases h2
  cases r with
  | list h1 h2 h3 h4 =>
    rw [e] at h1
    cases h1
    cases h3
    obtain ⟨d, bs, q⟩ := readsAll_mem h4 (vals_mem rv hm)
    exact noP q
  | tuple h1 h2 => rw [e] at h1; cases h1; injection h2 with z; exact absurd z (by decide)
  | dict h1 h2 => rw [e] at h1; cases h1; injection h2 with z; exact absurd z (by decide)
/-! ### a list that is under way -/
/-- the list at a, and nothing else, is being told -/
def Und (a : Addr) (A : Around) : Prop := ∃ rest kw, A.guards = some [.builtin "list.__repr__.loop" ⟨.ref a :: rest, kw⟩]
theorem und_deep (a : Addr) (A : Around) (env : Env) (h : Und a A) : Und a (A.deeper env) := h
theorem clear_und {a b : Addr} {rest : List Value} {kw : List (Str × Value)} (n : b ≠ a) : Clear [.builtin "list.__repr__.loop" ⟨.ref a :: rest, kw⟩] b := (Clear.nil b).cons fun e => n e.symm
/-- {x} of a list of data, while another list is told -/
def tFmtD (K : PySem.W.Frag) (a : Addr) (te : TE) : TE := fun σ H Q => te σ H fun x H1 => ∃ (l : Addr) (xs : List V) (ds : List PyData), x = .ref l ∧ SqL K H1 l xs ∧ DpAll K H1 xs ds ∧ Odd H1 a ∧ PyData.showableAll ds = true ∧ PyData.hasDictAll ds = false ∧ PyData.depthAll ds ≤ 60 ∧ (listText (PyData.shownAll ds)).length ≤ sizeLine ∧ Q (.str (listText (PyData.shownAll ds))) H1
theorem pe_fmtD {a : Addr} {e : Expr} {te : TE} {pos : Pos} {k : Nat} (hA : Und a X.A) (hr : Room k X.A) (he : PE X e te) : PE X (.FormattedValue e (-1) none pos) (tFmtD X.K a te) := by
  refine ⟨fun pins s σ H Q I h => ?_⟩
  refine wpAny_FormattedValue_plain (thn (he.run pins s σ H _ I h) fun v s1 hv => ?_)
  obtain ⟨x, H1, I1, r1, l, xs, ds, rfl, hl, hd, odd, h1, h2, h3, h4, q⟩ := hv
  cases r1
  obtain ⟨its, rv, ⟨o, n, ho, hc, _, hda⟩, _⟩ := I1.list hl
  obtain ⟨as, hR⟩ := Dp.readsAll I1 ds _ its hd rv
  obtain ⟨rest, kw, hgd⟩ := hA
  have hun := hr.un
  have fin : ∀ (h' : Heap) (u tk : Tok), (∀ b o, s1.heap.get? b = some o → h'.get? b = some o) → ∃ x t, Value.str (listText (PyData.shownAll ds)) u = .str x t ∧ EP X pins σ Q (.str (listText (PyData.shownAll ds)) u) { s1 with heap := h', toks := tk } :=
    fun h' u tk hk => ⟨_, _, rfl, .str _, H1, I1.kept hk, ⟨u, rfl⟩, q⟩
  refine wpAny_formatField_slot (T := "list") (fun _ _ => nofun) (by omega) ⟨o, ho, hc⟩ F.slot_list_format F.slot_list_str F.slot_list_repr.toG ?_
  obtain ⟨bs, hb, hk⟩ := ReprAllK.of_readsAll (prog := X.prog) (w := X.w) hR h1 (fun z => absurd (h2.symm.trans z) nofun) (fun t ht => Nat.le_trans (listText_mem_le ht) h4)
  have hR' := Reads.list ho hc hda (by simpa using hR)
  have hna : l ∉ bs := not_mem_of_deeper hR' (by simp only [PyData.depth]; omega) hb
  cases its with
  | nil =>
    cases hR
    simp only [PyData.shownAll, listText_nil] at fin ⊢
    exact call_list_repr_empty (s := { s1 with toks := s1.toks + 1 }) ⟨o, ho, hc⟩ ho hda (fin s1.heap _ _ fun _ _ e => e)
  | cons y its =>
    refine call_list_reprK (s := { s1 with toks := s1.toks + 1 }) (g := [.builtin "list.__repr__.loop" ⟨.ref a :: rest, kw⟩]) (h₀ := s1.heap) ho hc hda hna (by simpa using hk.length_eq) (fun i y e => hk.item i y (by simpa using e)) hgd (fun b hb' => clear_und fun z => ?_) ?_ (fun _ _ e => e) (fun h' u tk hk => fin h' u tk hk) h4
    · subst z
      rcases List.mem_cons.mp hb' with z | z
      · subst z
        exact odd_reads I1 odd hR'
      · obtain ⟨d, as', r, _⟩ := hb _ z
        exact odd_reads I1 odd r
    · show X.A.units + 1 + 1 + _ < cLine
      omega
end
end LL

namespace LL
open PySem L2 PySem.Spec PyProof.Rows PySem.Builtin PySem.Builtin.List
/-! ### what stands in a list that is told -/
/-- x is told as t, while the list at a is under way -/
def Tells (X : Cx) (n : Nat) (a : Addr) (D : V → Str → Hp → Prop) : Prop :=
  ∀ (B : Around) (pins : List (Addr × Obj)) (s : Shared) (σ : L2.St) (G : Hp) (x : V) (t : Str) (u : Value) (c : Nat), Room n B → B.frames = X.A.frames → Und a B → Inv X pins σ G s → RelV x u → D x t G → Odd G a → c + t.length ≤ sizeLine →
    wpAny (model X.prog X.w) B (pyReprUnder c u) (fun t' s' => t' = t ∧ ∃ G', Inv X pins σ G' s' ∧ Ext G G') X.xe s
/-- as data -/
def TData (K : PySem.W.Frag) : V → Str → Hp → Prop := fun x t G => ∃ d, Dp K G x d ∧ d.showable = true ∧ d.hasDict = false ∧ d.depth ≤ 60 ∧ d.shown.length ≤ sizeLine ∧ t = d.shown
theorem tells_data {X : Cx} {n : Nat} {a : Addr} : Tells X n a (TData X.K) := by
  intro B pins s σ G x t u c rm fr ⟨rest, kw, hB⟩ I ru ⟨d, hd, h1, h2, h3, h4, e⟩ odd hz
  subst e
  obtain ⟨as, r⟩ := Dp.reads I d _ _ hd ru
  obtain ⟨bs, hb, hk⟩ := ReprK.of_reads (prog := X.prog) (w := X.w) r h1 (fun z => absurd (h2.symm.trans z) nofun) h4
  have hun := rm.un
  exact hk c hz B _ _ s _ hB (fun b m => clear_und fun z => by
    subst z
    obtain ⟨d', as', r', _⟩ := hb _ m
    exact odd_reads I odd r') (by omega) (fun _ _ e => e) fun h' tk k => ⟨rfl, G, I.kept k, Ext.rfl'⟩
/-- an object of the class at C, by its own __repr__ -/
def TOwn (C : Addr) (R : Addr → Str → Hp → Prop) : V → Str → Hp → Prop := fun x t G => ∃ p dx fs, x = .ref p ∧ G p = some (.ins C dx fs) ∧ R p t G
def spRepr (a : Addr) (R : Addr → Str → Hp → Prop) : Sp := fun vs G Q _ => ∃ p t, vs = [.ref p] ∧ R p t G ∧ Odd G a ∧ ∀ G', Ext G G' → Q (.str t) G'
theorem byBound {K : PySem.W.Frag} {M : Model} {B : Around} {J : Value → Shared → Prop} {s : Shared} {x C f : Addr} {ox : Obj} {od : Option Obj} {nm : Str} {last : Value → List Value → Sem Value} {Q : Option Value → Shared → Prop} (inK : K.In s.heap) (at_ : PySem.W.InstAt s.heap x ox C od)
    (hs : PySem.W.findIn K (.ref C) nm = some (some (.ref f))) (hf : PySem.W.isFn K (.ref f) = true) (h : wpAny M B (last (.ref f) [.ref x]) (fun v => Q (some v)) J s) : wpAny M B (callSpecialIfBoundBy? last (.ref x) nm) Q J s := by
  have bnd := PySem.W.bind_fn (M := M) inK (.ref x) (beq_iff_eq.mp hf)
  have end_ : wpAny M B (last (.ref f) [.ref x] >>= fun v => pure (some v)) Q J s := wpAny_bind (wpAny_mono h (fun v s' z => wpAny_pure z) fun _ _ z => z)
  simp only [callSpecialIfBoundBy?, bindSpecialIfBound?]
  refine wpAny_holding (wpAny_bind (wpAny_bind (wpAny_bind (at_.type.here ((PySem.W.looks_findIn inK hs).here (wpAny_bind (wpAny_askSetting (wpAny_ite ?_))))))))
  split
  · exact wpAny_bind (bnd.here (wpAny_pure end_))
  · exact wpAny_tryCatch (wpAny_bind (bnd.here (wpAny_pure end_)))
theorem tells_own {X : Cx} {n : Nat} {a C f : Addr} {fd : FuncData} {ps : List Str} {R : Addr → Str → Hp → Prop} (F : FnQ (Und a) X.prog X.w X.K X.mg X.base n f fd ps (spRepr a R)) (hs : PySem.W.findIn X.K (.ref C) "__repr__" = some (some (.ref f))) (hf : PySem.W.isFn X.K (.ref f) = true) (hb : Binds X.K fd ps []) :
    Tells X n a (TOwn C R) := by
  intro B pins s σ G x t u c rm fr hB I ru ⟨p, dx, fs, e, hp, hR⟩ odd hz
  subst e
  cases ru
  obtain ⟨mA, J, _⟩ := ins_get I.hok hp
  obtain ⟨od, J, _⟩ := J.look
  have hun := rm.un
  refine wpAny_pyReprUnder_ref (by omega) ?_
  unfold pyReprObjUnder pyReprObjBy
  refine wpAny_bind (wpAny_cRoomFor (by omega) (wpAny_bind (wpAny_bind (J.type.here ((PySem.W.looks_findIn I.kIn hs).here ?_)))))
  show wpAny _ _ (if (some (Value.ref f)).isNone = true then _ else _) _ _ _
  rw [if_neg (by simp)]
  refine wpAny_bind (byBound I.kIn J hs hf ?_)
  have sp : spRepr a R [.ref p] G (fun v G' => v = .str t ∧ Ext G G') C8.E0 := ⟨p, t, rfl, hR, odd, fun G' e => ⟨rfl, e⟩⟩
  have e0 : Env0 X.prog X.w X.K X.mg X.base B X.stack s G := ⟨fr.trans I.env0.frames, I.env0.mod, I.env0.bs, I.env0.bsz, I.env0.funs, I.env0.frf, I.env0.hok, I.env0.bare⟩
  have bd := hb s [.ref p] I.kIn (by simpa using F.cnt _ _ _ _ sp)
  refine wpAny_call (codeAny_mono (F.go B X.stack s G ⟨[.ref p], []⟩ [.ref p] [.ref p] _ C8.E0 rm hB e0 (by simpa using bd) (.cons rfl .nil) sp) fun z s' q => ?_)
  match z, q with
  | .error _, q => exact q.elim
  | .ok (.ret v), q =>
    obtain ⟨y, G', I', ry, ey, ex⟩ := I.after q
    subst ey
    obtain ⟨tk, rfl⟩ := ry
    exact wpAny_bind (wpAny_isInstance (T := "str") (b := true) (typeIs_str _ _ _) isSubtype_str_str (wpAny_pure ⟨t, tk, rfl, rfl, G', I', ex⟩))
/-! ### the list, item by item -/
structure Aside (X : Cx) (pins : List (Addr × Obj)) (P : Addr) : Prop where
  loc : P ≠ X.env.locals
  fs : P ∉ X.fs
  new : X.s_0.heap.objs.size ≤ P
  cell : ∀ x c, X.env.cells.lookup x = some c → c ≠ P
  pin : ∀ p ∈ X.pn ++ pins, p.1 ≠ P
section
variable {X : Cx} {pins : List (Addr × Obj)} {σ : L2.St}
theorem Aside.of {G : Hp} {s : Shared} (I : Inv X pins σ G s) : Aside X pins s.heap.objs.size := by
  refine ⟨fun z => ?_, I.nofs (Nat.le_refl _), I.sz, fun x c e z => ?_, fun p hp z => ?_⟩
  · exact absurd (z ▸ I.lt) (Nat.lt_irrefl _)
  · obtain ⟨v, hv⟩ := I.cell x c e
    subst z
    exact absurd (Heap.lt_size hv.choose_spec.1) (Nat.lt_irrefl _)
  · have := (I.pin p hp).1
    rw [z] at this
    exact absurd (Heap.lt_size this) (Nat.lt_irrefl _)
def pobj (acc : Array Value) (c : Nat) : Obj := { cls := .type "list", dict := none, data := .seq acc c, slots := #[] }
theorem Aside.on {G : Hp} {s : Shared} {P : Addr} {acc : Array Value} {c : Nat} (k : Aside X pins P) (I : Inv X pins σ G s) (h : s.heap.get? P = some (pobj acc c)) (hn : G P = none) : Inv X ((P, pobj acc c) :: pins) σ G s :=
  I.pins_of fun p hp => (List.mem_cons.mp hp).elim (fun e => by
    subst e
    exact ⟨h, hn, k.loc, k.fs, fun v => nofun⟩) fun m => I.pin p (List.mem_append_right _ m)
theorem Aside.off {G : Hp} {s : Shared} {P : Addr} {o : Obj} (I : Inv X ((P, o) :: pins) σ G s) : Inv X pins σ G s ∧ s.heap.get? P = some o ∧ G P = none :=
  ⟨I.pins_of fun p hp => I.pin p (List.mem_append_right _ (List.mem_cons_of_mem _ hp)), let q := I.pin (P, o) (List.mem_append_right _ List.mem_cons_self); ⟨q.1, q.2.1⟩⟩
theorem loopDepth (B : Around) (ar : Args) : (B.under (.builtin "list.__repr__.loop" ar)).depth = B.depth + 1 := by
  first | rfl | simp [Around.under, Code.weight, Code.isCreation, Code.isGuard, Code.isCaller, Code.frames, Code.isFrame, guardIds]
/-- the loop of list.__repr__ over items that are told one by one -/
theorem tellLoop {n : Nat} {D : V → Str → Hp → Prop} {a P : Addr} {B : Around} {xs : List V} {ts : List Str} {H : Hp} {R : Result → Shared → Prop} (hD : ∀ x t G G', Ext G G' → D x t G → D x t G') (T : Tells X n a D) (rm : Room (n + 1) B) (fr : B.frames = X.A.frames) (hg : NoG B) (kP : Aside X pins P) (naP : a ≠ P)
    (ha : H a = some (.lst xs)) (odd : Odd H a) (hA : All2 (fun x t => D x t H) xs ts) (hz : (listText ts).length ≤ sizeLine) (hE : ∀ e s', X.xe e s' → R (.error e) s')
    (fin : ∀ s' u G', Inv X pins σ G' s' → Ext H G' → R (.ok (.ret (.str (listText ts) u))) s') :
    ∀ (m i : Nat) (s : Shared) (G : Hp) (acc : Array Value) (c : Nat) (done : List (Str × Tok)), xs.length - i = m → i ≤ xs.length → Inv X pins σ G s → Ext H G → G P = none → s.heap.get? P = some (pobj acc c) → acc.toList = strValues done → done.map (·.1) = ts.take i →
      codeAny (model X.prog X.w) B (.builtin "list.__repr__.loop" ⟨[.ref a, rawInt i, .ref P, rawInt ((piled (ts.take i) : Nat) : Int)], []⟩) R s := by
  have w1 : (listText ts).length = (textFrom 0 "[" ts).length + 1 := by
    show (textFrom 0 "[" ts ++ ("]" : Str)).length = _
    rw [strLen_append]
    rfl
  have w2 := textFrom_len ts 0 "["
  have w3 := piled_le_listText ts
  have small : ∀ t ∈ ts, t.length ≤ sizeLine := fun t ht => by
    have := w2.2.1 t ht
    omega
  intro m
  induction m with
  | zero =>
    intro i s G acc c done hm hi I ex hn hP h1 h2
    obtain rfl : i = xs.length := by omega
    obtain ⟨_, its, k, rv, e⟩ := I.hok a _ (ex _ _ ha)
    refine codeAny_builtin F.entry_list_repr_loop ?_
    show wpAny _ _ («list.__repr__.loop» ⟨[.ref a, .int (xs.length : Nat) 0, .ref P, .int ((piled (ts.take xs.length) : Nat) : Int) 0], []⟩) _ _ s
    rw [repr_loop_tree]
    refine wpAny_bind (wpAny_listItems e rfl ?_)
    have none_ : its.toArray[((xs.length : Nat) : Int).toNat]? = none := by simp [rv.length]
    simp only [none_]
    unfold reprEnd
    refine wpAny_bind (wpAny_listItems hP rfl ?_)
    rw [h1, repr_fold]
    refine wpAny_bind (wpAny_pure ?_)
    rw [h2, hA.1, List.take_length]
    exact wpAny_bind (wpAny_mkStr (wpAny_pure (fin _ _ G (I.tok _) ex)) hz)
  | succ m ih =>
    intro i s G acc c done hm hi I ex hn hP h1 h2
    have hlt : i < xs.length := by omega
    have hlt2 : i < ts.length := hA.1 ▸ hlt
    have gx := List.getElem?_eq_getElem hlt
    have gt := List.getElem?_eq_getElem hlt2
    obtain ⟨_, its, k, rv, e⟩ := I.hok a _ (ex _ _ ha)
    obtain ⟨u, gu, ru⟩ := rv.get gx
    have q1 := piled_take_succ gt
    have q2 := piled_take_le ts (i + 1)
    refine codeAny_builtin F.entry_list_repr_loop ?_
    show wpAny _ _ («list.__repr__.loop» ⟨[.ref a, .int i 0, .ref P, .int ((piled (ts.take i) : Nat) : Int) 0], []⟩) _ _ s
    rw [repr_loop_tree]
    refine wpAny_bind (wpAny_listItems e rfl ?_)
    have some_ : its.toArray[((i : Nat) : Int).toNat]? = some u := by simpa using gu
    simp only [some_]
    rw [Int.toNat_natCast]
    refine wpAny_bind (wpAny_holding (wpAny_mono (T (B.under (.builtin "list.__repr__.loop" ⟨[.ref a, rawInt i, .ref P, rawInt ((piled (ts.take i) : Nat) : Int)], []⟩)) _ s σ G xs[i] ts[i] u (piled (ts.take i) + 1) ?_ ?_ ?_ (kP.on I hP hn) ru (hD _ _ _ _ ex (hA.2 i _ _ gx gt)) ?_ (by omega)) (fun t' s1 z => ?_) fun e s' z => hE e s' z))
    · exact ⟨rm.hd, by rw [loopDepth]; have := rm.dp; omega, by rw [units_under_list_loop]; have := rm.un; omega⟩
    · exact fr
    · exact ⟨_, _, guards_under_guard (isGuard_list_loop _) hg⟩
    · obtain ⟨p, C, dx, fs, ys, o1, o2, o3⟩ := odd
      exact ⟨p, C, dx, fs, ys, ex _ _ o1, o2, ex _ _ o3⟩
    obtain ⟨rfl, G1, I1, ex1⟩ := z
    obtain ⟨I2, hP2, hn2⟩ := Aside.off I1
    refine wpAny_bind (wpAny_mkStr (wpAny_bind ?_) (small _ (List.getElem_mem hlt2)))
    show wpAny _ _ (updateSeq P _) _ _ _
    have len : acc.size ≤ sizeLine := by
      have e1 : acc.toList.length = acc.size := Array.length_toList
      have e2 : (strValues done).length = (done.map (·.1)).length := by simp [strValues]
      rw [h1, e2, h2, List.length_take] at e1
      have := (I.list (SqL.of (K := X.K) (ex _ _ ha))).choose_spec.2.2
      omega
    refine wpAny_updateSeq hP2 rfl (wpAny_pure ⟨F.quiet_list_repr_loop _, ?_⟩) len
    rw [show ((i : Nat) : Int) + 1 = ((i + 1 : Nat) : Int) by omega, show piled (ts.take i) + (ts[i].length + 2) = piled (ts.take (i + 1)) by omega]
    refine ih (i + 1) _ G1 (acc.push (.str ts[i] s1.toks)) _ (done ++ [(ts[i], s1.toks)]) (by omega) hlt ((I2.tok _).turned (it := P) (fun b o nb h => (Heap.get?_update_other _ _ (Ne.symm nb)).trans h) hn2 kP.loc (.inr kP.new) kP.cell kP.pin) (ex.trans ex1) hn2 (Heap.get?_update_self _ hP2 rfl) (by simp [h1, strValues]) (by rw [List.map_append, h2, List.take_add_one, gt]; rfl)
/-- repr of a list, by what is told of its items -/
def rReprL (D : V → Str → Hp → Prop) : List V → Hp → VK → Prop := fun xs H Q => ∃ (a : Addr) (ys : List V) (ts : List Str), xs = [V.ref a] ∧ H a = some (.lst ys) ∧ ys ≠ [] ∧ Odd H a ∧ All2 (fun x t => D x t H) ys ts ∧ (listText ts).length ≤ sizeLine ∧ ∀ H', Ext H H' → Q (.str (listText ts)) H'
theorem call_reprL {n : Nat} {D : V → Str → Hp → Prop} (hD : ∀ x t G G', Ext G G' → D x t G → D x t G') (T : ∀ a, Tells X n a D) (hg : NoG X.A) (rm : Room (n + 2) X.A) : CallR X (.builtin "repr") (rReprL D) := by
  intro pins s σ H xs us Q I r ⟨a, ys, ts, e, ha, hne, odd, hA, hz, q⟩
  subst e
  obtain ⟨u, rfl, ru⟩ := vals1 r
  cases ru
  obtain ⟨_, its, k, rv, e⟩ := I.hok a _ ha
  have rm1 : Room (n + 1) X.A.in1 := rm.in1
  have hun := rm.un
  refine call_repr_slot (by omega) (show s.TypeIs (.ref a) "list" from ⟨_, e, rfl⟩) F.slot_list_repr.toG ?_
  refine wpAny_call (codeAny_call_builtin F.slot_list_repr.plain F.entry_list_repr (F.slot_list_repr.check _ _ _ _ _ _ _ _ ⟨_, e, rfl⟩ (F.args_list_repr_1 _) ?_))
  match its, rv, e with
  | [], rv, e =>
    exact absurd (List.length_eq_zero_iff.mp rv.length) hne
  | y :: its, rv, e =>
    refine wpAny_list_repr_head (A := X.A.in1.in1) (g := []) hg (fun _ _ _ m => nomatch m) e rfl (wpAny_bind (m := newList []) (wpAny_newObj_type (wpAny_pure ⟨F.quiet_list_repr_loop _, ?_⟩)))
    have I1 : Inv X pins σ H { s with heap := s.heap.push (pobj #[] 0) } := I.kept fun b o h => Heap.get?_push_of_some _ h
    exact tellLoop hD (T a) rm1 rfl hg (Aside.of I) (Nat.ne_of_lt (Heap.lt_size e)) ha odd hA hz (fun _ _ h => h) (fun s' u G' I' ex => ⟨_, _, rfl, .str _, G', I', ⟨u, rfl⟩, q G' ex⟩) _ 0 _ H #[] _ [] rfl (Nat.zero_le _) I1 Ext.rfl' (I.hok.fresh (Nat.le_refl _)) (Heap.get?_push_size _ rfl) rfl rfl
end
end LL

namespace LL
open PySem L2 PySem.Spec PyProof.Rows
/-! ### a + b, a * 3, -a by the text's own defs -/
section
variable {X : Cx} {n : Nat} {C f : Addr} {fd : FuncData} {ps : List Str} {sp : Sp} {op : Operator}
theorem back_of {pins : List (Addr × Obj)} {σ : L2.St} {Q : VK} {v : Value} {s' : Shared} (h : EP X pins σ Q v s') : PySem.W.CmpBack (EP X pins σ Q) v s' := by
  obtain ⟨y, G, I, r, q⟩ := h
  have back : EP X pins σ Q v s' := ⟨y, G, I, r, q⟩
  cases v with
  | notImplemented =>
    cases y with
    | int i => obtain ⟨_, z⟩ := r; cases z
    | str i => obtain ⟨_, z⟩ := r; cases z
    | byt i => obtain ⟨_, z⟩ := r; cases z
    | flt i => obtain ⟨_, z⟩ := r; cases z
    | _ => cases r
  | _ => exact back
/-- both of the class at C -/
def rOwn2 (C : Addr) (sp : Sp) : R2 := fun x y H Q => ∃ a b dx dy fs gs, x = .ref a ∧ y = .ref b ∧ H a = some (.ins C dx fs) ∧ H b = some (.ins C dy gs) ∧ sp [.ref a, .ref b] H Q C8.E0
theorem op_own2 (F : FnOk X.prog X.w X.K X.mg X.base C8.CX0 n f fd ps sp) (rm : Room n X.A) (hc : PySem.W.selfFirst X.K C = true) (hs : PySem.W.findIn X.K (.ref C) (PySem.dunder op.info.2) = some (some (.ref f))) (hf : PySem.W.isFn X.K (.ref f) = true) (hb : Binds X.K fd ps []) :
    OpR X (binaryOp op) (rOwn2 C sp) := by
  intro pins s σ H x y u v Q I rx ry ⟨a, b, dx, dy, fs, gs, e1, e2, ha, hb', h⟩
  subst e1 e2
  cases rx
  cases ry
  obtain ⟨mA, J, _⟩ := ins_get I.hok ha
  obtain ⟨mB, J', _⟩ := ins_get I.hok hb'
  obtain ⟨od, J, _⟩ := J.look
  obtain ⟨od', J', _⟩ := J'.look
  obtain ⟨m, hF⟩ := I.fr
  exact PySem.W.binop_K hF I.ok.mod.kin J J'.type hc hs hf (wpAny_mono (run_fn (vs := [V.ref a, V.ref b]) F rm hb .nil C8.pass0 I (.cons rfl (.cons rfl .nil)) h) (fun _ _ z => back_of z) fun _ _ z => z)
/-- an int on the right -/
def rOwnI (C : Addr) (sp : Sp) : R2 := fun x y H Q => ∃ a i dx fs, x = .ref a ∧ y = .int i ∧ H a = some (.ins C dx fs) ∧ sp [.ref a, .int i] H Q C8.E0
theorem op_ownI {fo ro : Option Value} (F : FnOk X.prog X.w X.K X.mg X.base C8.CX0 n f fd ps sp) (rm : Room n X.A) (hc : PySem.W.selfFirst X.K C = true) (hs : PySem.W.findIn X.K (.ref C) (PySem.dunder op.info.2) = some (some (.ref f))) (hf : PySem.W.isFn X.K (.ref f) = true) (hb : Binds X.K fd ps [])
    (hr : PySem.W.findIn X.K (.ref C) (dunderR op.info.2) = some none) (h1 : PySem.W.findIn X.K (.type "int") (PySem.dunder op.info.2) = some fo) (h2 : PySem.W.findIn X.K (.type "int") (dunderR op.info.2) = some ro) (hsub : PySem.W.subIn X.K (.type "int") (.ref C) = some false) :
    OpR X (binaryOp op) (rOwnI C sp) := by
  intro pins s σ H x y u v Q I rx ry ⟨a, i, dx, fs, e1, e2, ha, h⟩
  subst e1 e2
  cases rx
  obtain ⟨t, rfl⟩ := ry
  obtain ⟨mA, J, _⟩ := ins_get I.hok ha
  obtain ⟨od, J, _⟩ := J.look
  obtain ⟨m, hF⟩ := I.fr
  exact PySem.W.ksp_binT (T := "int") (b := .int i t) hF I.ok.mod.kin J rfl hc hs hf hr (.inl rfl) h1 h2 hsub (wpAny_mono (run_fn (vs := [V.ref a, V.int i]) F rm hb .nil C8.pass0 I (.cons rfl (.cons ⟨t, rfl⟩ .nil)) h) (fun _ _ z => back_of z) fun _ _ z => z)
/-- -a -/
def rOwnN (C : Addr) (sp : Sp) : V → Hp → VK → Prop := fun x H Q => ∃ a dx fs, x = .ref a ∧ H a = some (.ins C dx fs) ∧ sp [.ref a] H Q C8.E0
theorem un_own (F : FnOk X.prog X.w X.K X.mg X.base C8.CX0 n f fd ps sp) (rm : Room n X.A) (hs : PySem.W.findIn X.K (.ref C) "__neg__" = some (some (.ref f))) (hf : PySem.W.isFn X.K (.ref f) = true) (hb : Binds X.K fd ps []) : UnR X (unaryOp .USub) (rOwnN C sp) := by
  intro pins s σ H x v Q I rx ⟨a, dx, fs, e, ha, h⟩
  subst e
  cases rx
  obtain ⟨mA, J, _⟩ := ins_get I.hok ha
  obtain ⟨od, J, _⟩ := J.look
  obtain ⟨m, hF⟩ := I.fr
  exact PySem.W.ksp_neg hF I.ok.mod.kin J hs hf (run_fn (vs := [V.ref a]) F rm hb .nil C8.pass0 I (.cons rfl .nil) h)
end
/-! ### calls by names alone -/
/-- a def of the module that may be called by the names ks -/
structure CalK (P : Program) (w : World) (K : PySem.W.Frag) (mg : Str → Option Value) (base : Heap) (k : Nat) (x : Str) (sp : Sp) (ks : List Str) (gV : List V → List V → List V) : Prop where
  ex : ∃ (f : Addr) (fd : FuncData) (ps : List Str) (g : List Value → List Value → List Value), FnOk P w K mg base C8.CX0 k f fd ps sp ∧ mg x = some (.ref f) ∧ PySem.W.keepIn K (.ref f) = true ∧ KBinds K fd ps ks g gV
def tCallK0 (sp : Sp) (gV : List V → List V → List V) (tk : TA) : TE := fun σ H Q => tk σ H fun zs H2 => sp (gV [] zs) H2 Q C8.E0
theorem pe_cK {X : Cx} {k j : Nat} {x : Str} {sp : Sp} {ks : List Str} {gV : List V → List V → List V} {p pos : Pos} {kws : List Keyword} {tk : TA} (c : CalK X.prog X.w X.K X.mg X.base k x sp ks gV) (hr : Room j X.A) (hk : k ≤ j) (hg : Gl X x)
    (hkw : PK X kws tk) (hall : (backToKw pos (keywordEach kws X.env)).all (·.1.isSome) = true := by rfl) (hks : (backToKw pos (keywordEach kws X.env)).filterMap (·.1) = ks := by rfl)
    (hdb : (x == ("__debug__" : Str)) = false := by decide) (hpl : ((backTo pos (starEach [] X.env)).any (·.1) || (backToKw pos (keywordEach kws X.env)).any (·.1.isNone)) = false := by rfl) :
    PE X (.Call (.Name x p) [] kws pos) (tCallK0 sp gV tk) := by
  obtain ⟨f, fd, ps, g, F, hm, kp, hb⟩ := c.ex
  refine ⟨fun pins s σ H Q I h => wpAny_Call_Name_kw (ld_glob I hg hm ?_ hdb)⟩
  refine PySem.W.callWith_KW0 (h₀ := X.base) I.ok.mod.kin kp hall (thn (hkw.run pos pins s σ H _ I h) fun ws s2 ⟨zs, H2, I2, rz, q2⟩ => ⟨I2.kIn, ?_⟩) hpl
  rw [hks]
  exact run_fnk F (hr.mono hk) hb C8.pass0 I2 .nil rz q2
end LL

namespace LL
open PySem PySem.Builtin PySem.Spec PyProof.Rows
/-! ### sum(lists, []) -/
abbrev lobj (xs : List Value) (k : Nat) : Obj := { cls := .type "list", data := .seq xs.toArray k }
section
variable {prog : Program} {w : World} {A : Around} {R : Result → Shared → Prop} {I : Addr} {fp wr : List Addr} {G : Array GenState → Array GenState → Prop} {n : Nat} {P : Nat → Value → Prop} {St : Nat → Shared → Prop}
theorem sumlists (W : WalksS prog w A.in1 I fp wr G n P St) (S : Addr) (off : S ∉ fp) (h0 : Heap) (known : ∀ b o, h0.get? b = some o → b ≠ S ∧ b ∉ wr) (val : Nat → List Value) (hval : ∀ i v, P i v → ∃ b k, v = .ref b ∧ h0.get? b = some (lobj (val i) k)) (few : ((List.range n).flatMap val).length ≤ sizeLine) (low : ∀ b ∈ wr, b < S) (low0 : h0.objs.size ≤ S) :
    ∀ (k i : Nat) (s : Shared) (T : Addr) (c c' : Nat), n - i = k → i ≤ n → St i s → (∀ b o, h0.get? b = some o → s.heap.get? b = some o) → s.heap.get? S = some (lobj [.ref T] c) → s.heap.get? T = some (lobj ((List.range i).flatMap val) c') → T ≠ S → T ∉ wr →
      (i ≠ 0 → h0.objs.size ≤ T) → (∀ s' T' c', Moved (S :: wr) G s s' → s'.heap.get? T' = some (lobj ((List.range n).flatMap val) c') → (n ≠ 0 → h0.objs.size ≤ T') → R (.ok (.ret (.ref T'))) s') →
      codeAny (model prog w) A (.builtin "sum.loop" ⟨[.ref I, .ref S, rawInt 2, rawInt 0], []⟩) R s := by
  have offw : S ∉ wr := fun h => off (W.sub _ h)
  have up : ∀ b ∈ wr, b ∈ S :: wr := fun b hb => List.mem_cons_of_mem _ hb
  intro k
  induction k with
  | zero =>
    intro i s T c c' hk hi hst h0s hS hT nT oT fr hR
    obtain rfl : i = n := by omega
    refine codeAny_builtin F.entry_sum_loop (by
      rw [Around.under_plainId F.plain_sum_loop _]
      show wpAny _ A.in1 (seqItems? (.ref S) >>= _) _ _ s
      refine wpAny_bind (wpAny_seqItems hS rfl ?_)
      show wpAny _ A.in1 (tryCatch (pyNext (.ref I)) _ >>= _) _ _ s
      exact wpAny_bind (wpAny_tryCatch (W.done s _ _ hst fun s' hm => wpAny_pure (hR s' T c' (hm.mono up) (hm.heap T _ oT hT) fr))))
  | succ k ih =>
    intro i s T c c' hk hi hst h0s hS hT nT oT fr hR
    have lt : i < n := by omega
    have grow : (List.range (i + 1)).flatMap val = (List.range i).flatMap val ++ val i := by
      rw [List.range_succ, List.flatMap_append]
      simp
    have part : ((List.range (i + 1)).flatMap val).length ≤ ((List.range n).flatMap val).length := by
      have e : List.range n = List.range (i + 1) ++ (List.range (n - (i + 1))).map (fun x => (i + 1) + x) := by
        rw [← List.range_add]
        congr 1
        omega
      rw [e, List.flatMap_append, List.length_append]
      omega
    refine codeAny_builtin F.entry_sum_loop (by
      rw [Around.under_plainId F.plain_sum_loop _]
      show wpAny _ A.in1 (seqItems? (.ref S) >>= _) _ _ s
      refine wpAny_bind (wpAny_seqItems hS rfl ?_)
      show wpAny _ A.in1 (tryCatch (pyNext (.ref I)) _ >>= _) _ _ s
      refine wpAny_bind (wpAny_tryCatch (W.item i s _ _ lt hst fun v s' hP hst' hm => ?_))
      obtain ⟨b, kb, rfl, hb⟩ := hval i v hP
      have hS' := hm.heap S _ offw hS
      have hT' := hm.heap T _ oT hT
      have hb' := hm.heap b _ (known b _ hb).2 (h0s b _ hb)
      show wpAny _ A.in1 ((holding [Value.ref b] (binaryOp .Add (.ref T) (.ref b))).attempt >>= _) _ _ _
      refine wpAny_bind (wpAny_attempt (wpAny_holding (PySem.P.add_list hT' hb' ?_ (by rw [grow, List.length_append] at part; simp only [List.size_toArray]; omega))))
      have hS1 : (s'.heap.push (lobj ((List.range (i + 1)).flatMap val) 0)).get? S = some (lobj [.ref T] c) := Heap.get?_push_of_some _ hS'
      rw [show ((List.range i).flatMap val).toArray ++ (val i).toArray = ((List.range (i + 1)).flatMap val).toArray by rw [grow]; simp]
      show wpAny _ A.in1 (updateSeq S (fun _ => #[.ref s'.heap.objs.size]) >>= _) _ _ _
      refine wpAny_bind (wpAny_updateSeq hS1 rfl ?_)
      have hS2 := Heap.get?_update_self (Obj.mapSeq fun _ => #[Value.ref s'.heap.objs.size]) hS1 rfl
      refine wpAny_bind (wpAny_letGo ?_)
      refine wpAny_bind (wpAny_updateSeq hS2 rfl (wpAny_pure ⟨plainId_quiet F.plain_sum_loop _, ?_⟩))
      have neS : s'.heap.objs.size ≠ S := fun z => absurd (Heap.lt_size (z ▸ hS')) (Nat.lt_irrefl _)
      have keep : ∀ b o, b ≠ S → s'.heap.get? b = some o → (((s'.heap.push (lobj ((List.range (i + 1)).flatMap val) 0)).update S (Obj.mapSeq fun _ => #[Value.ref s'.heap.objs.size])).update S (Obj.mapSeq fun _ => #[Value.ref s'.heap.objs.size])).get? b = some o := fun b o nb e =>
        (Heap.get?_update_other _ _ (Ne.symm nb)).trans ((Heap.get?_update_other _ _ (Ne.symm nb)).trans (Heap.get?_push_of_some _ e))
      have above : S < s'.heap.objs.size := Heap.lt_size hS'
      have big : h0.objs.size ≤ s'.heap.objs.size := Nat.le_trans low0 (Nat.le_of_lt above)
      refine ih (i + 1) _ s'.heap.objs.size _ 0 (by omega) lt (W.frame _ s' _ _ hst' (by first | exact Nat.le_refl _ | exact Nat.le_succ _ | omega) fun b hb o e => keep b o (fun h : b = S => off (h ▸ hb)) e) (fun b o e => keep b o (known b o e).1 (hm.heap b o (known b o e).2 (h0s b o e)))
        (Heap.get?_update_self _ hS2 rfl) ((Heap.get?_update_other _ _ neS.symm).trans ((Heap.get?_update_other _ _ neS.symm).trans (Heap.get?_push_size _ rfl))) neS (fun h => absurd (Nat.lt_trans (low _ h) above) (Nat.lt_irrefl _)) (fun _ => big) fun s'' T'' c'' hm'' e'' f'' => hR s'' T'' c'' (Moved.trans W.gtrans ((hm.mono up).then_heap (by first | exact Nat.le_refl _ | exact Nat.le_succ _ | omega) fun b o hb e => keep b o (fun h : b = S => hb (by rw [h]; exact List.mem_cons_self)) e) hm'') e'' f''
      )
end
section
variable {prog : Program} {w : World} {A : Around} {E : Value → Shared → Prop} {s : Shared}
theorem args_sum2 (a b : Value) : argsOk "sum" ⟨[a, b], []⟩ := by unfold argsOk; kernel_rfl
theorem sumcall {l e : Addr} {ol oe : Obj} {its : List Value} {vals : Nat → List Value} {c ce : Nat} {Q : Value → Shared → Prop} (hh : A.handled = none) (hl : s.heap.get? l = some (lobj its c)) (he : s.heap.get? e = some (lobj [] ce)) (ne : its ≠ [])
    (hv : ∀ (i : Nat) v, its[i]? = some v → ∃ b k, v = .ref b ∧ s.heap.get? b = some (lobj (vals i) k)) (few : ((List.range its.length).flatMap vals).length ≤ sizeLine)
    (h : ∀ h' tk T c', s.heap.objs.size ≤ T → h'.get? T = some (lobj ((List.range its.length).flatMap vals) c') → (∀ b o, s.heap.get? b = some o → h'.get? b = some o) → Q (.ref T) { s with heap := h', toks := tk }) : wpAny (model prog w) A (call (.builtin "sum") [.ref l, .ref e]) Q E s := by
  refine call_function_tree F.kind_sum F.plain_sum F.entry_sum (args_sum2 _ _) ?_
  unfold Builtin.«sum»
  simp only [List.length_cons, List.length_nil]
  rw [if_neg (by decide)]
  refine wpAny_bind (wpAny_of_eq (show Builtin.Builtins.bindParams "sum" ["start"] 0 ⟨[.ref e], []⟩ = pure [some (.ref e)] from rfl) ?_)
  have hL : s.heap.IsList l its.toArray := ⟨_, hl, rfl, c, rfl⟩
  refine wpAny_bind (wpAny_pyIter_list hL ?_)
  refine wpAny_bind (wpAny_pure ?_)
  simp only [List.forIn_cons, List.forIn_nil]
  have ty : ∀ h' tk, (∀ b o, s.heap.get? b = some o → h'.get? b = some o) → Shared.TypeIs { s with heap := h', toks := tk } (.ref e) "list" := fun h' tk k => ⟨_, k _ _ he, rfl⟩
  have k1 : ∀ b o, s.heap.get? b = some o → (s.heap.push { cls := .type "list_iterator", data := .fields #[.ref l, .int 0 0] }).get? b = some o := fun b o q => Heap.get?_push_of_some _ q
  refine wpAny_bind (wpAny_bind (wpAny_bind (wpAny_isInstance (T := "list") (b := false) (ty _ _ k1) PySem.F.sub_list_str ?_)))
  simp only [Bool.false_eq_true, if_false]
  refine wpAny_pure (wpAny_bind (wpAny_bind (wpAny_isInstance (T := "list") (b := false) (ty _ _ k1) PySem.F.sub_list_bytes ?_)))
  simp only [Bool.false_eq_true, if_false]
  refine wpAny_pure (wpAny_bind (wpAny_bind (wpAny_isInstance (T := "list") (b := false) (ty _ _ k1) PySem.F.sub_list_bytearray ?_)))
  simp only [Bool.false_eq_true, if_false]
  refine wpAny_pure (wpAny_pure (wpAny_bind (wpAny_newObj_type ?_)))
  have lt : l < s.heap.objs.size := Heap.lt_size hl
  have lte : e < s.heap.objs.size := Heap.lt_size he
  have sz : (s.heap.push { cls := .type "list_iterator", data := .fields #[.ref l, .int 0 0] }).objs.size = s.heap.objs.size + 1 := Heap.size_push ..
  have hh2 : A.in1.handled = none := by simp [hh]
  refine wpAny_pure ⟨plainId_quiet F.plain_sum_loop _, sumlists ((Walks.list hh2 s.heap.objs.size l (Nat.ne_of_lt lt) its.toArray).toS) _ ?off s.heap ?known vals ?hval (by simpa using few) ?low ?low0 _ 0 _ e _ _ rfl (Nat.zero_le _) ?st (fun b o q => Heap.get?_push_of_some _ (k1 b o q)) (Heap.get?_push_size _ rfl) (Heap.get?_push_of_some _ (k1 _ _ he)) ?neS ?now (fun z => absurd rfl z) ?fin⟩
  case off =>
    rw [sz]
    simp only [List.mem_cons, List.not_mem_nil, or_false, not_or]
    exact ⟨Nat.ne_of_gt (Nat.lt_succ_self _), Nat.ne_of_gt (Nat.lt_succ_of_lt lt)⟩
  case known =>
    intro b o q
    have := Heap.lt_size q
    rw [sz]
    simp only [List.mem_cons, List.not_mem_nil, or_false]
    exact ⟨Nat.ne_of_lt (Nat.lt_succ_of_lt this), Nat.ne_of_lt this⟩
  case hval => exact fun i v q => hv i v (by simpa using q)
  case low =>
    intro b hb
    rw [sz]
    simp only [List.mem_cons, List.not_mem_nil, or_false] at hb
    subst hb
    exact Nat.lt_succ_self _
  case low0 =>
    rw [sz]
    exact Nat.le_succ _
  case st => exact ⟨⟨_, Heap.get?_push_of_some _ (Heap.get?_push_size _ rfl), rfl, rfl⟩, (hL.push _).push _⟩
  case neS =>
    rw [sz]
    exact Nat.ne_of_lt (Nat.lt_succ_of_lt lte)
  case now =>
    simp only [List.mem_cons, List.not_mem_nil, or_false]
    exact Nat.ne_of_lt lte
  case fin =>
    intro s' T c' hm hT hn
    obtain ⟨h', g', d', tk', os'⟩ := s'
    obtain rfl : g' = s.gens := hm.gens
    obtain rfl : d' = s.drawn := hm.drawn
    obtain rfl : os' = s.os := hm.os
    refine h h' tk' T c' (hn (by simpa using ne)) (by simpa using hT) fun b o q => hm.heap b o ?_ (Heap.get?_push_of_some _ (k1 b o q))
    have := Heap.lt_size q
    rw [sz]
    simp only [List.mem_cons, List.not_mem_nil, or_false, not_or]
    exact ⟨Nat.ne_of_lt (Nat.lt_succ_of_lt this), Nat.ne_of_lt this⟩
end
section
open L2
variable {X : Cx}
/-- sum(lists, []): one list of all items -/
def rSumL : List V → L2.Hp → VK → Prop := fun xs H Q => ∃ (l e : Addr) (ys : List V) (zs : List (List V)), xs = [V.ref l, V.ref e] ∧ H l = some (.lst ys) ∧ H e = some (.lst []) ∧ ys ≠ [] ∧ All2 (fun y z => ∃ b, y = V.ref b ∧ H b = some (.lst z)) ys zs ∧ zs.flatten.length ≤ sizeLine ∧
  ∀ p, H p = none → Q (.ref p) (upd H p (.lst zs.flatten))
theorem flat_vals : ∀ {ws : List (List Value)} {zs : List (List V)}, All2 (fun z w => Vals z w) zs ws → Vals zs.flatten ws.flatten
  | [], [], _ => .nil
  | [], _ :: _, h => by cases h.1
  | _ :: _, [], h => by cases h.1
  | w :: ws, z :: zs, h => by
    rw [List.flatten_cons, List.flatten_cons]
    exact (h.2 0 z w rfl rfl).append (flat_vals ⟨Nat.succ.inj h.1, fun i x y a b => h.2 (i + 1) x y a b⟩)
theorem cr_sumL (hc : X.calm = true) : CallR X (.builtin "sum") rSumL := by
  intro pins s σ H xs us Q I r ⟨l, e, ys, zs, ex, hl, he, ne, hA, few, q⟩
  subst ex
  obtain ⟨u, v, rfl, ru, rv⟩ := vals2 r
  cases ru
  cases rv
  obtain ⟨_, its, c, ri, gl⟩ := I.hok l _ hl
  obtain ⟨_, ite, ce, re, ge⟩ := I.hok e _ he
  cases re
  have row : ∀ i : Nat, ∃ w : List Value, ∀ z, zs[i]? = some z → Vals z w ∧ ∃ b k, its[i]? = some (Value.ref b) ∧ s.heap.get? b = some (lobj w k) := fun i => by
    cases e : zs[i]? with
    | none => exact ⟨[], fun z h => nomatch h⟩
    | some z =>
      obtain ⟨y, hy, b, ey, hb⟩ := hA.get' e
      subst ey
      obtain ⟨_, w, k, rw', gw⟩ := I.hok b _ hb
      obtain ⟨u, hu, ru⟩ := ri.get hy
      cases ru
      exact ⟨w, fun z' h => by cases h; exact ⟨rw', b, k, hu, gw⟩⟩
  let vals : Nat → List Value := fun i => (row i).choose
  have hvals : ∀ i z, zs[i]? = some z → Vals z (vals i) ∧ ∃ b k, its[i]? = some (Value.ref b) ∧ s.heap.get? b = some (lobj (vals i) k) := fun i => (row i).choose_spec
  have len : its.length = zs.length := by rw [← ri.length, hA.1]
  have flat : (List.range its.length).flatMap vals = ((List.range zs.length).map vals).flatten := by rw [len]; rfl
  have rel : Vals zs.flatten ((List.range zs.length).map vals).flatten := flat_vals ⟨by simp, fun i z w hz hw => by
    have hi := (List.getElem?_eq_some_iff.mp hz).1
    rw [List.getElem?_map, List.getElem?_range hi] at hw
    cases hw
    exact (hvals i z hz).1⟩
  refine sumcall (vals := vals) (ol := lobj [] 0) (oe := lobj [] 0) (I.ok.hd hc) gl ge (fun z => ne (List.length_eq_zero_iff.mp (by rw [ri.length, z]; rfl))) (fun i v hv => ?_) (by rw [flat, ← rel.length]; exact few) fun h' tk T c' hT gT k => ?_
  · have hi : i < zs.length := by
      have := (List.getElem?_eq_some_iff.mp hv).1
      omega
    obtain ⟨_, b, k, e1, e2⟩ := hvals i _ (List.getElem?_eq_getElem hi)
    rw [hv] at e1
    exact ⟨b, k, Option.some.inj e1, e2⟩
  · rw [flat] at gT
    have hn : H T = none := I.hok.fresh hT
    exact ⟨.ref T, _, I.laid (t' := tk) (o := .lst zs.flatten) k hT ⟨few, _, c', rel, gT⟩, rfl, q T hn⟩
end
end LL

namespace LL
open PySem L2 PySem.Spec PyProof.Rows
/-! ### how long data are as texts -/
mutual
def tame : PyData → Bool
  | .int i => decide (i.natAbs < 10 ^ 40)
  | .list xs => tameAll xs
  | .tuple xs => tameAll xs
  | .dict _ => false
  | .str y => decide ((reprText y).length ≤ 40)
  | _ => true
def tameAll : List PyData → Bool
  | [] => true
  | x :: r => tame x && tameAll r
end
mutual
def wt : PyData → Nat
  | .list xs => wtAll xs + 2
  | .tuple xs => wtAll xs + 3
  | _ => 45
def wtAll : List PyData → Nat
  | [] => 0
  | x :: r => wt x + 2 + wtAll r
end
theorem listText_le : ∀ ts : List Str, (listText ts).length ≤ piled ts + 2
  | [] => by
    rw [listText_nil]
    decide +kernel
  | t :: r => by
    have h := textFrom_length_pos r 1 (("[" : Str) ++ (if (0 : Nat) > 0 then ", " else "" : String) ++ t) (Nat.succ_pos 0)
    have e : ((("[" : Str) ++ (if (0 : Nat) > 0 then ", " else "" : String) ++ t)).length = 1 + t.length := by
      rw [strLen_append, strLen_append]
      rfl
    have q : (listText (t :: r)).length = (textFrom 1 (("[" : Str) ++ (if (0 : Nat) > 0 then ", " else "" : String) ++ t) r).length + 1 := by
      show (textFrom 1 (("[" : Str) ++ (if (0 : Nat) > 0 then ", " else "" : String) ++ t) r ++ ("]" : Str)).length = _
      rw [strLen_append]
      rfl
    rw [q, h, e, piled_cons]
    omega
mutual
theorem told : ∀ {d : PyData}, tame d = true → d.shown.length ≤ wt d ∧ d.showable = true ∧ d.hasDict = false
  | .none, _ => ⟨by decide +kernel, rfl, rfl⟩
  | .bool b, _ => ⟨by cases b <;> decide +kernel, rfl, rfl⟩
  | .int i, h => by
    have h' : i.natAbs < 10 ^ 40 := by simpa [tame] using h
    have q := int_text_length_le10 (k := 40) (by decide) h'
    refine ⟨?_, ?_, rfl⟩
    · show (Str.ofString (toString i)).length ≤ 45
      rw [PySem.ofString_length]
      omega
    · show decide (i.natAbs.log2 < 1920) = true
      exact decide_eq_true (by
        by_cases z : i.natAbs = 0
        · rw [z]
          decide
        · exact (Nat.log2_lt z).mpr (Nat.lt_trans h' (by decide +kernel)))
  | .str y, h => by
    have h' : (reprText y).length ≤ 40 := by simpa [tame] using h
    exact ⟨Nat.le_trans h' (show 40 ≤ 45 by decide), rfl, rfl⟩
  | .list xs, h => by
    have h' : tameAll xs = true := h
    obtain ⟨a, b, c⟩ := toldAll h'
    refine ⟨?_, b, c⟩
    have := listText_le (PyData.shownAll xs)
    show (listText (PyData.shownAll xs)).length ≤ wtAll xs + 2
    omega
  | .tuple xs, h => by
    have h' : tameAll xs = true := h
    obtain ⟨a, b, c⟩ := toldAll h'
    refine ⟨?_, b, c⟩
    have := fmt_text (PyData.shownAll xs)
    show (tupleText (PyData.shownAll xs)).length ≤ wtAll xs + 3
    omega
  | .dict _, h => by cases h
theorem toldAll : ∀ {ds : List PyData}, tameAll ds = true → piled (PyData.shownAll ds) ≤ wtAll ds ∧ PyData.showableAll ds = true ∧ PyData.hasDictAll ds = false
  | [], _ => ⟨Nat.zero_le _, rfl, rfl⟩
  | d :: ds, h => by
    have h' : tame d = true ∧ tameAll ds = true := by simpa [tameAll] using h
    obtain ⟨a, b, c⟩ := told h'.1
    obtain ⟨a', b', c'⟩ := toldAll h'.2
    refine ⟨?_, ?_, ?_⟩
    · show piled (d.shown :: PyData.shownAll ds) ≤ wt d + 2 + wtAll ds
      rw [piled_cons]
      omega
    · show (d.showable && PyData.showableAll ds) = true
      rw [b, b']
      rfl
    · show (d.hasDict || PyData.hasDictAll ds) = false
      rw [c, c']
      rfl
end
end LL

namespace LL
open PySem L2 PySem.Spec PyProof.Rows
/-! ### data: what stands in a heap, without the heap -/
/-- v: a value as it is (a reference: what stands there is told elsewhere); lst, tup: data that nobody changes any more; rd: a list that is only read; obj: an instance, its fields' names and data -/
inductive Da where
  | v (x : V) | lst (ds : List Da) | tup (ds : List Da) | rd (ds : List Da) | obj (C : Addr) (ns : List Str) (ds : List Da)
abbrev Da.i (n : Int) : Da := .v (.int n)
abbrev Da.b (c : Bool) : Da := .v (.bl c)
abbrev Da.s (x : Str) : Da := .v (.str x)
abbrev Da.n : Da := .v .non
abbrev Da.r (a : Addr) : Da := .v (.ref a)
theorem same_new {H : Hp} {p : Addr} {o : HO} (h : H p = none) : Same H (upd H p o) := fun a u e => by
  rw [upd_ne (ne_of_none e h)]
  exact e
theorem same_mut {I H : Hp} {p : Addr} {o : HO} (e : Same I H) (h : I p = none) : Same I (upd H p o) := fun a u ha => by
  rw [upd_ne (ne_of_none ha h)]
  exact e a u ha
theorem same_T {K : PySem.W.Frag} {H H' : Hp} {a : Addr} {xs : List V} (e : Same H H') (h : SqT K H a xs) : SqT K H' a xs := by
  rcases h with (h | ⟨o, h⟩) | h
  · exact .inl (.inl (e _ _ h))
  · exact .inl (.inr ⟨o, e _ _ h⟩)
  · exact .inr h
mutual
inductive At (K : PySem.W.Frag) (I : Hp) : V → Da → Prop
  | v (x : V) : At K I x (.v x)
  | lst {a : Addr} {vs : List V} {ds : List Da} : I a = some (.lst vs) → AtAll K I vs ds → At K I (.ref a) (.lst ds)
  | tup {a : Addr} {vs : List V} {ds : List Da} : SqT K I a vs → AtAll K I vs ds → At K I (.ref a) (.tup ds)
  | rd {a : Addr} {vs : List V} {ds : List Da} : SqL K I a vs → AtAll K I vs ds → At K I (.ref a) (.rd ds)
  | obj {p C dx : Addr} {fs : List (Str × V)} {ns : List Str} {ds : List Da} : I p = some (.ins C dx fs) → fs.map (·.1) = ns → AtAll K I (fs.map (·.2)) ds → At K I (.ref p) (.obj C ns ds)
inductive AtAll (K : PySem.W.Frag) (I : Hp) : List V → List Da → Prop
  | nil : AtAll K I [] []
  | cons {v : V} {vs : List V} {d : Da} {ds : List Da} : At K I v d → AtAll K I vs ds → AtAll K I (v :: vs) (d :: ds)
end
section
variable {K : PySem.W.Frag} {I I' H H' : Hp}
mutual
theorem At.to (s : Same I I') : ∀ {d : Da} {v : V}, At K I v d → At K I' v d
  | .v _, _, h => by cases h; exact .v _
  | .lst _, _, h => by cases h with | lst a b => exact .lst (s _ _ a) (AtAll.to s b)
  | .tup _, _, h => by cases h with | tup a b => exact .tup (same_T s a) (AtAll.to s b)
  | .rd _, _, h => by cases h with | rd a b => exact .rd (s.seq a) (AtAll.to s b)
  | .obj _ _ _, _, h => by cases h with | obj a e b => exact .obj (s _ _ a) e (AtAll.to s b)
theorem AtAll.to (s : Same I I') : ∀ {ds : List Da} {vs : List V}, AtAll K I vs ds → AtAll K I' vs ds
  | [], _, h => by cases h; exact .nil
  | _ :: _, _, h => by cases h with | cons a b => exact .cons (At.to s a) (AtAll.to s b)
end
theorem At.val {v x : V} (h : At K I v (.v x)) : v = x := by cases h; rfl
theorem AtAll.length : ∀ {vs : List V} {ds : List Da}, AtAll K I vs ds → vs.length = ds.length
  | _, _, .nil => rfl
  | _, _, .cons _ b => by rw [List.length_cons, List.length_cons, b.length]
theorem AtAll.get : ∀ {vs : List V} {ds : List Da} {i : Nat} {x : V}, AtAll K I vs ds → vs[i]? = some x → ∃ d, ds[i]? = some d ∧ At K I x d
  | _, _, i, _, .nil, h => by simp at h
  | _, _, 0, _, .cons a b, h => ⟨_, rfl, by cases (Option.some.inj h : _ = _); exact a⟩
  | _, _, i + 1, _, .cons a b, h => b.get (i := i) h
theorem AtAll.get' : ∀ {vs : List V} {ds : List Da} {i : Nat} {d : Da}, AtAll K I vs ds → ds[i]? = some d → ∃ x, vs[i]? = some x ∧ At K I x d
  | _, _, i, _, .nil, h => by simp at h
  | _, _, 0, _, .cons a b, h => ⟨_, rfl, by cases (Option.some.inj h : _ = _); exact a⟩
  | _, _, i + 1, _, .cons a b, h => b.get' (i := i) h
theorem AtAll.app : ∀ {vs ws : List V} {ds es : List Da}, AtAll K I vs ds → AtAll K I ws es → AtAll K I (vs ++ ws) (ds ++ es)
  | _, _, _, _, .nil, h => h
  | _, _, _, _, .cons a b, h => .cons a (b.app h)
theorem AtAll.take : ∀ {vs : List V} {ds : List Da} (n : Nat), AtAll K I vs ds → AtAll K I (vs.take n) (ds.take n)
  | _, _, 0, _ => by simp; exact .nil
  | _, _, n + 1, .nil => by simp; exact .nil
  | _, _, n + 1, .cons a b => .cons a (b.take n)
theorem AtAll.drop : ∀ {vs : List V} {ds : List Da} (n : Nat), AtAll K I vs ds → AtAll K I (vs.drop n) (ds.drop n)
  | _, _, 0, h => h
  | _, _, n + 1, .nil => by simp; exact .nil
  | _, _, n + 1, .cons a b => b.drop n
theorem AtAll.set {x : V} {d : Da} (h : At K I x d) : ∀ {vs : List V} {ds : List Da} (i : Nat), AtAll K I vs ds → AtAll K I (vs.set i x) (ds.set i d)
  | _, _, _, .nil => .nil
  | _, _, 0, .cons _ b => .cons h b
  | _, _, i + 1, .cons a b => .cons a (b.set h i)
theorem AtAll.rep {vs : List V} {ds : List Da} (h : AtAll K I vs ds) : ∀ k, AtAll K I (List.replicate k vs).flatten (List.replicate k ds).flatten
  | 0 => .nil
  | k + 1 => by
    rw [List.replicate_succ, List.replicate_succ, List.flatten_cons, List.flatten_cons]
    exact h.app (h.rep k)
theorem AtAll.vals : ∀ {vs us : List V}, AtAll K I vs (us.map Da.v) → vs = us
  | _, [], h => by cases h; rfl
  | _, _ :: _, h => by cases h with | cons a b => rw [a.val, b.vals]
theorem AtAll.ofV : ∀ us : List V, AtAll K I us (us.map Da.v)
  | [] => .nil
  | u :: us => .cons (.v u) (AtAll.ofV us)
end
/-! ### what may be changed -/
inductive Cell where
  | ml (ds : List Da)
  | mi (C : Addr) (ns : List Str) (ds : List Da)
  /-- any other object, as it stands in the heap -/
  | ho (o : HO)
abbrev Mu := Addr → Option Cell
def setM (μ : Mu) (a : Addr) (c : Cell) : Mu := fun b => if b = a then some c else μ b
def remM (μ : Mu) (a : Addr) : Mu := fun b => if b = a then none else μ b
theorem setM_at {μ : Mu} {a : Addr} {c : Cell} : setM μ a c a = some c := if_pos rfl
theorem setM_ne {μ : Mu} {a b : Addr} {c : Cell} (n : b ≠ a) : setM μ a c b = μ b := if_neg n
theorem remM_at {μ : Mu} {a : Addr} : remM μ a a = none := if_pos rfl
theorem remM_ne {μ : Mu} {a b : Addr} (n : b ≠ a) : remM μ a b = μ b := if_neg n
theorem remM_setM {μ : Mu} {a : Addr} {c : Cell} (h : μ a = none) : remM (setM μ a c) a = μ := by
  funext b
  by_cases e : b = a
  · subst e
    rw [remM_at, h]
  · rw [remM_ne e, setM_ne e]
theorem setM_setM {μ : Mu} {a : Addr} {c d : Cell} : setM (setM μ a c) a d = setM μ a d := by
  funext b
  unfold setM
  split <;> rfl
def CellOk (K : PySem.W.Frag) (I : Hp) (o : Option HO) : Cell → Prop
  | .ml ds => ∃ vs, o = some (.lst vs) ∧ AtAll K I vs ds
  | .mi C ns ds => ∃ dx fs, o = some (.ins C dx fs) ∧ fs.map (·.1) = ns ∧ AtAll K I (fs.map (·.2)) ds
  | .ho u => o = some u
theorem CellOk.to {K : PySem.W.Frag} {I I' : Hp} {o : Option HO} {c : Cell} (s : Same I I') (h : CellOk K I o c) : CellOk K I' o c := by
  cases c with
  | ml ds => obtain ⟨vs, a, b⟩ := h; exact ⟨vs, a, b.to s⟩
  | mi C ns ds => obtain ⟨dx, fs, a, e, b⟩ := h; exact ⟨dx, fs, a, e, b.to s⟩
  | ho u => exact h
theorem CellOk.some {K : PySem.W.Frag} {I : Hp} {o : Option HO} {c : Cell} (h : CellOk K I o c) : ∃ u, o = .some u := by
  cases c with
  | ml ds => obtain ⟨vs, a, _⟩ := h; exact ⟨_, a⟩
  | mi C ns ds => obtain ⟨dx, fs, a, _⟩ := h; exact ⟨_, a⟩
  | ho u => exact ⟨u, h⟩
/-- H holds what I knows, and the cells μ, apart from it -/
structure StR (K : PySem.W.Frag) (H I : Hp) (μ : Mu) : Prop where
  same : Same I H
  cell : ∀ a c, μ a = some c → I a = none ∧ CellOk K I (H a) c
section
variable {K : PySem.W.Frag} {H I : Hp} {μ : Mu} {p : Addr} {o : HO}
theorem StR.noI (s : StR K H I μ) (h : H p = none) : I p = none := s.same.free h
theorem StR.noM (s : StR K H I μ) (h : H p = none) : μ p = none := by
  cases e : μ p with
  | none => rfl
  | some c =>
    obtain ⟨u, q⟩ := (s.cell p c e).2.some
    rw [h] at q
    cases q
/-- a new object that will not change -/
theorem StR.new (s : StR K H I μ) (h : H p = none) : StR K (upd H p o) (upd I p o) μ := by
  have hi := s.noI h
  refine ⟨fun a u e => ?_, fun a c e => ?_⟩
  · by_cases z : a = p
    · subst z; rw [upd_same] at e ⊢; exact e
    · rw [upd_ne z] at e ⊢; exact s.same _ _ e
  · have z : a ≠ p := fun z => by rw [z, s.noM h] at e; cases e
    obtain ⟨a1, a2⟩ := s.cell a c e
    rw [upd_ne z, upd_ne z]
    exact ⟨a1, a2.to (same_new hi)⟩
/-- a new object that nobody needs to know -/
theorem StR.lay (s : StR K H I μ) (h : H p = none) : StR K (upd H p o) I μ := by
  refine ⟨same_mut s.same (s.noI h), fun a c e => ?_⟩
  have z : a ≠ p := fun z => by rw [z, s.noM h] at e; cases e
  rw [upd_ne z]
  exact s.cell a c e
/-- a new cell -/
theorem StR.newM (s : StR K H I μ) (h : H p = none) {c : Cell} (hc : CellOk K I (some o) c) : StR K (upd H p o) I (setM μ p c) := by
  refine ⟨same_mut s.same (s.noI h), fun a d e => ?_⟩
  by_cases z : a = p
  · subst z
    rw [setM_at] at e
    cases e
    rw [upd_same]
    exact ⟨s.noI h, hc⟩
  · rw [setM_ne z] at e
    rw [upd_ne z]
    exact s.cell a d e
/-- a cell is changed -/
theorem StR.put (s : StR K H I μ) {c0 c : Cell} (h : μ p = some c0) (hc : CellOk K I (some o) c) : StR K (upd H p o) I (setM μ p c) := by
  have hi := (s.cell p c0 h).1
  refine ⟨same_mut s.same hi, fun a d e => ?_⟩
  by_cases z : a = p
  · subst z
    rw [setM_at] at e
    cases e
    rw [upd_same]
    exact ⟨hi, hc⟩
  · rw [setM_ne z] at e
    rw [upd_ne z]
    exact s.cell a d e
/-- a cell becomes data -/
theorem StR.frz (s : StR K H I μ) {ds : List Da} (h : μ p = some (.ml ds)) : ∃ I', Same I I' ∧ StR K H I' (remM μ p) ∧ At K I' (.ref p) (.lst ds) := by
  obtain ⟨hi, vs, hv, ha⟩ := s.cell p _ h
  refine ⟨upd I p (.lst vs), same_new hi, ⟨fun a u e => ?_, fun a c e => ?_⟩, .lst upd_same (ha.to (same_new hi))⟩
  · by_cases z : a = p
    · subst z; rw [upd_same] at e; rw [hv, ← e]
    · rw [upd_ne z] at e; exact s.same _ _ e
  · have z : a ≠ p := fun z => by rw [z, remM_at] at e; cases e
    rw [remM_ne z] at e
    obtain ⟨a1, a2⟩ := s.cell a c e
    rw [upd_ne z]
    exact ⟨a1, a2.to (same_new hi)⟩
theorem StR.frzI (s : StR K H I μ) {C : Addr} {ns : List Str} {ds : List Da} (h : μ p = some (.mi C ns ds)) : ∃ I', Same I I' ∧ StR K H I' (remM μ p) ∧ At K I' (.ref p) (.obj C ns ds) := by
  obtain ⟨hi, dx, fs, hv, hn, ha⟩ := s.cell p _ h
  refine ⟨upd I p (.ins C dx fs), same_new hi, ⟨fun a u e => ?_, fun a c e => ?_⟩, .obj upd_same hn (ha.to (same_new hi))⟩
  · by_cases z : a = p
    · subst z; rw [upd_same] at e; rw [hv, ← e]
    · rw [upd_ne z] at e; exact s.same _ _ e
  · have z : a ≠ p := fun z => by rw [z, remM_at] at e; cases e
    rw [remM_ne z] at e
    obtain ⟨a1, a2⟩ := s.cell a c e
    rw [upd_ne z]
    exact ⟨a1, a2.to (same_new hi)⟩
end
/-! ### the slots -/
abbrev Rho := List (Option Da)
def EnvR (K : PySem.W.Frag) (I : Hp) (σ : L2.St) (ρ : Rho) : Prop := σ.length = ρ.length ∧ ∀ (i : Nat) (d : Da), ρ[i]? = some (some d) → ∃ v, σ[i]? = some (some v) ∧ At K I v d
section
variable {K : PySem.W.Frag} {I I' : Hp} {σ : L2.St} {ρ : Rho}
theorem EnvR.to (s : Same I I') (h : EnvR K I σ ρ) : EnvR K I' σ ρ := ⟨h.1, fun i d e => let ⟨v, a, b⟩ := h.2 i d e; ⟨v, a, b.to s⟩⟩
theorem EnvR.set {v : V} {d : Da} (h : EnvR K I σ ρ) (i : Nat) (a : At K I v d) : EnvR K I (σ.set i (some v)) (ρ.set i (some d)) := by
  refine ⟨by rw [List.length_set, List.length_set, h.1], fun j e q => ?_⟩
  by_cases z : i = j
  · subst z
    have hi : i < ρ.length := by
      by_cases hi : i < ρ.length
      · exact hi
      · rw [List.getElem?_eq_none (by rw [List.length_set]; omega)] at q; cases q
    rw [List.getElem?_set_self hi] at q
    cases q
    exact ⟨v, List.getElem?_set_self (by rw [h.1]; exact hi), a⟩
  · rw [List.getElem?_set_ne z] at q ⊢
    exact h.2 j e q
/-- some slots are known to be data -/
theorem EnvR.mono {ρ' : Rho} (h : EnvR K I σ ρ) (hl : ρ'.length = ρ.length) (hk : ∀ (i : Nat) (d : Da), ρ'[i]? = some (some d) → ∀ v : V, σ[i]? = some (some v) → (∃ d0, ρ[i]? = some (some d0) ∧ At K I v d0) → At K I v d) (hs : ∀ (i : Nat) (d : Da), ρ'[i]? = some (some d) → ∃ d0, ρ[i]? = some (some d0)) : EnvR K I σ ρ' := by
  refine ⟨by rw [h.1, hl], fun i d e => ?_⟩
  obtain ⟨d0, e0⟩ := hs i d e
  obtain ⟨v, a, b⟩ := h.2 i d0 e0
  exact ⟨v, a, hk i d e v a ⟨d0, e0, b⟩⟩
def startR (N : List Str) (ds : List Da) : Rho := ds.map some ++ List.replicate (N.length - ds.length) none
theorem startR_ok {N : List Str} {vs : List V} {ds : List Da} (h : AtAll K I vs ds) : EnvR K I (L2.start N vs) (startR N ds) := by
  have hl := h.length
  refine ⟨by unfold L2.start startR; simp [hl], fun i d e => ?_⟩
  unfold startR at e
  unfold L2.start
  by_cases hi : i < ds.length
  · rw [List.getElem?_append_left (by simpa using hi), List.getElem?_map] at e
    cases q : ds[i]? with
    | none => rw [q] at e; cases e
    | some d' =>
      rw [q] at e
      cases e
      obtain ⟨v, a, b⟩ := h.get' q
      exact ⟨v, by rw [List.getElem?_append_left (by simp; omega), List.getElem?_map, a]; rfl, b⟩
  · rw [List.getElem?_append_right (by simpa using hi), List.getElem?_replicate] at e
    split at e <;> cases e
def wipeR (ρ : Rho) : List Nat → Rho
  | [] => ρ
  | v :: vs => (wipeR ρ vs).set v none
theorem EnvR.unset (h : EnvR K I σ ρ) (i : Nat) : EnvR K I (σ.set i none) (ρ.set i none) := by
  refine ⟨by rw [List.length_set, List.length_set, h.1], fun j e q => ?_⟩
  by_cases z : i = j
  · subst z
    by_cases hi : i < ρ.length
    · rw [List.getElem?_set_self hi] at q; cases q
    · rw [List.getElem?_eq_none (by rw [List.length_set]; omega)] at q; cases q
  · rw [List.getElem?_set_ne z] at q ⊢
    exact h.2 j e q
theorem EnvR.wipe (h : EnvR K I σ ρ) : ∀ vs, EnvR K I (wipe σ vs) (wipeR ρ vs)
  | [] => h
  | v :: vs => (h.wipe vs).unset v
end
/-! ### readings by data -/
abbrev DP := Da → Mu → Prop
abbrev DTE := Rho → Mu → DP → Prop
abbrev DTT := Rho → Mu → (Bool → Mu → Prop) → Prop
abbrev DTA := Rho → Mu → (List Da → Mu → Prop) → Prop
abbrev DTO := Rho → Mu → (Option Int → Mu → Prop) → Prop
structure DEnds where
  nx : Rho → Mu → Prop
  rt : DP
  bk : Rho → Mu → Prop := fun _ _ => False
  ct : Rho → Mu → Prop := fun _ _ => False
abbrev DTS := DEnds → Rho → Mu → Prop
abbrev DTG := Da → Rho → Mu → (Rho → Mu → Prop) → Prop
abbrev DTGs := List Da → Rho → Mu → (Rho → Mu → Prop) → Prop
abbrev DR2 := Da → Da → Mu → DP → Prop
abbrev DR1 := Da → Mu → DP → Prop
abbrev DRC := List Da → Mu → DP → Prop
abbrev DRM := Da → List Da → Mu → DP → Prop
abbrev DSet := Da → Da → Da → Mu → (Mu → Prop) → Prop
/-- what an end by data asks of an end -/
abbrev CoE (K : PySem.W.Frag) (I : Hp) (P : DP) (Q : VK) : Prop := ∀ v d I' H' μ', Same I I' → StR K H' I' μ' → At K I' v d → P d μ' → Q v H'
abbrev CoT (K : PySem.W.Frag) (I : Hp) (P : Bool → Mu → Prop) (Q : Bool → Hp → Prop) : Prop := ∀ b I' H' μ', Same I I' → StR K H' I' μ' → P b μ' → Q b H'
abbrev CoA (K : PySem.W.Frag) (I : Hp) (P : List Da → Mu → Prop) (Q : List V → Hp → Prop) : Prop := ∀ vs ds I' H' μ', Same I I' → StR K H' I' μ' → AtAll K I' vs ds → P ds μ' → Q vs H'
abbrev CoO (K : PySem.W.Frag) (I : Hp) (P : Option Int → Mu → Prop) (Q : Option Int → Hp → Prop) : Prop := ∀ o I' H' μ', Same I I' → StR K H' I' μ' → P o μ' → Q o H'
abbrev CoS (K : PySem.W.Frag) (I : Hp) (P : Rho → Mu → Prop) (Q : L2.St → Hp → Prop) : Prop := ∀ σ' ρ' I' H' μ', Same I I' → EnvR K I' σ' ρ' → StR K H' I' μ' → P ρ' μ' → Q σ' H'
abbrev CoM (K : PySem.W.Frag) (I : Hp) (P : Mu → Prop) (Q : Hp → Prop) : Prop := ∀ I' H' μ', Same I I' → StR K H' I' μ' → P μ' → Q H'
structure EndsR (K : PySem.W.Frag) (I : Hp) (A : DEnds) (B : Ends) : Prop where
  nx : CoS K I A.nx B.nx
  rt : CoE K I A.rt B.rt
  bk : CoS K I A.bk B.bk
  ct : CoS K I A.ct B.ct
theorem CoE.to {K : PySem.W.Frag} {I I' : Hp} {P : DP} {Q : VK} (s : Same I I') (h : CoE K I P Q) : CoE K I' P Q := fun v d J H' μ' s2 => h v d J H' μ' (s.trans s2)
theorem CoS.to {K : PySem.W.Frag} {I I' : Hp} {P : Rho → Mu → Prop} {Q : L2.St → Hp → Prop} (s : Same I I') (h : CoS K I P Q) : CoS K I' P Q := fun σ' ρ' J H' μ' s2 => h σ' ρ' J H' μ' (s.trans s2)
theorem EndsR.to {K : PySem.W.Frag} {I I' : Hp} {A : DEnds} {B : Ends} (s : Same I I') (h : EndsR K I A B) : EndsR K I' A B := ⟨CoS.to s h.nx, CoE.to s h.rt, CoS.to s h.bk, CoS.to s h.ct⟩
class SoE (K : PySem.W.Frag) (te : TE) (de : outParam DTE) : Prop where
  run : ∀ {ρ : Rho} {μ : Mu} {P : DP}, de ρ μ P → ∀ {σ : L2.St} {I H : Hp} {Q : VK}, EnvR K I σ ρ → StR K H I μ → CoE K I P Q → te σ H Q
class SoT (K : PySem.W.Frag) (te : TT) (de : outParam DTT) : Prop where
  run : ∀ {ρ : Rho} {μ : Mu} {P : Bool → Mu → Prop}, de ρ μ P → ∀ {σ : L2.St} {I H : Hp} {Q : Bool → Hp → Prop}, EnvR K I σ ρ → StR K H I μ → CoT K I P Q → te σ H Q
class SoA (K : PySem.W.Frag) (te : TA) (de : outParam DTA) : Prop where
  run : ∀ {ρ : Rho} {μ : Mu} {P : List Da → Mu → Prop}, de ρ μ P → ∀ {σ : L2.St} {I H : Hp} {Q : List V → Hp → Prop}, EnvR K I σ ρ → StR K H I μ → CoA K I P Q → te σ H Q
class SoO (K : PySem.W.Frag) (te : TO) (de : outParam DTO) : Prop where
  run : ∀ {ρ : Rho} {μ : Mu} {P : Option Int → Mu → Prop}, de ρ μ P → ∀ {σ : L2.St} {I H : Hp} {Q : Option Int → Hp → Prop}, EnvR K I σ ρ → StR K H I μ → CoO K I P Q → te σ H Q
class SoS (K : PySem.W.Frag) (ts : TS) (ds : outParam DTS) : Prop where
  run : ∀ {ρ : Rho} {μ : Mu} {A : DEnds}, ds A ρ μ → ∀ {σ : L2.St} {I H : Hp} {B : Ends}, EnvR K I σ ρ → StR K H I μ → EndsR K I A B → ts B σ H
/-- sl: the slots that are stored to -/
class SoG (K : PySem.W.Frag) (g : TG) (dg : outParam DTG) : Prop where
  run : ∀ {v : V} {d : Da} {ρ : Rho} {μ : Mu} {P : Rho → Mu → Prop}, dg d ρ μ P → ∀ {σ : L2.St} {I H : Hp} {Q : L2.St → Hp → Prop}, EnvR K I σ ρ → StR K H I μ → At K I v d → CoS K I P Q → g v σ H Q
class SoGW (g : TG) (sl : outParam (List Nat)) : Prop where
  mono : ∀ {v : V} {σ : L2.St} {H : Hp} {Q Q' : L2.St → Hp → Prop}, (∀ σ' H', Q σ' H' → Q' σ' H') → g v σ H Q → g v σ H Q'
  only : ∀ {v : V} {σ σ0 : L2.St} {H : Hp} {Q : L2.St → Hp → Prop} {vs : List Nat}, (∀ i ∈ sl, i ∈ vs) → wipe σ vs = wipe σ0 vs → g v σ H Q → g v σ H fun σ' H' => wipe σ' vs = wipe σ0 vs ∧ Q σ' H'
class SoGsW (g : TGs) (sl : outParam (List Nat)) : Prop where
  mono : ∀ {v : List V} {σ : L2.St} {H : Hp} {Q Q' : L2.St → Hp → Prop}, (∀ σ' H', Q σ' H' → Q' σ' H') → g v σ H Q → g v σ H Q'
  only : ∀ {v : List V} {σ σ0 : L2.St} {H : Hp} {Q : L2.St → Hp → Prop} {vs : List Nat}, (∀ i ∈ sl, i ∈ vs) → wipe σ vs = wipe σ0 vs → g v σ H Q → g v σ H fun σ' H' => wipe σ' vs = wipe σ0 vs ∧ Q σ' H'
class SoGs (K : PySem.W.Frag) (g : TGs) (dg : outParam DTGs) : Prop where
  run : ∀ {v : List V} {d : List Da} {ρ : Rho} {μ : Mu} {P : Rho → Mu → Prop}, dg d ρ μ P → ∀ {σ : L2.St} {I H : Hp} {Q : L2.St → Hp → Prop}, EnvR K I σ ρ → StR K H I μ → AtAll K I v d → CoS K I P Q → g v σ H Q
class SoR (K : PySem.W.Frag) (r : R2) (dr : outParam DR2) : Prop where
  run : ∀ {x y : Da} {μ : Mu} {P : DP}, dr x y μ P → ∀ {u v : V} {I H : Hp} {Q : VK}, StR K H I μ → At K I u x → At K I v y → CoE K I P Q → r u v H Q
class SoU (K : PySem.W.Frag) (r : V → Hp → VK → Prop) (dr : outParam DR1) : Prop where
  run : ∀ {x : Da} {μ : Mu} {P : DP}, dr x μ P → ∀ {u : V} {I H : Hp} {Q : VK}, StR K H I μ → At K I u x → CoE K I P Q → r u H Q
class SoC (K : PySem.W.Frag) (r : List V → Hp → VK → Prop) (dr : outParam DRC) : Prop where
  run : ∀ {xs : List Da} {μ : Mu} {P : DP}, dr xs μ P → ∀ {us : List V} {I H : Hp} {Q : VK}, StR K H I μ → AtAll K I us xs → CoE K I P Q → r us H Q
class SoM (K : PySem.W.Frag) (T : String) (r : V → List V → Hp → VK → Prop) (dr : outParam DRM) : Prop where
  run : ∀ {x : Da} {xs : List Da} {μ : Mu} {P : DP}, dr x xs μ P → ∀ {u : V} {us : List V} {I H : Hp} {Q : VK}, StR K H I μ → At K I u x → AtAll K I us xs → CoE K I P Q → r u us H Q
  ty : ∀ {x : Da} {xs : List Da} {μ : Mu} {P : DP}, dr x xs μ P → ∀ {u : V} {I H : Hp}, StR K H I μ → At K I u x → tyV K T u H
class SoSet (K : PySem.W.Frag) (r : TSet) (dr : outParam DSet) : Prop where
  run : ∀ {x y z : Da} {μ : Mu} {P : Mu → Prop}, dr x y z μ P → ∀ {u v w : V} {I H : Hp} {Q : Hp → Prop}, StR K H I μ → At K I u x → At K I v y → At K I w z → CoM K I P Q → r u v w H Q
/-! ### defs' promises by data -/
abbrev DSp := List Da → Mu → DP → Prop
def spD (K : PySem.W.Frag) (dsp : DSp) : Sp := fun vs H Q _ => ∃ (I : Hp) (μ : Mu) (ds : List Da) (P : DP), StR K H I μ ∧ AtAll K I vs ds ∧ dsp ds μ P ∧ CoE K I P Q
end LL

namespace LL
open PySem L2 PySem.Spec PyProof.Rows
/-! ### the rules' readings, by data -/
section
variable {K : PySem.W.Frag}
/-! names, constants -/
def dVar (i : Nat) : DTE := fun ρ μ P => ∃ d, ρ[i]? = some (some d) ∧ P d μ
instance {i : Nat} : SoE K (tVar i) (dVar i) := ⟨fun ⟨d, e, p⟩ _ _ _ _ he st k => let ⟨v, a, b⟩ := he.2 _ _ e; ⟨v, a, k v d _ _ _ (Same.refl _) st b p⟩⟩
def dC (d : Da) : DTE := fun _ μ P => P d μ
instance {n : Int} : SoE K (tC (.int n)) (dC (.i n)) := ⟨fun p _ _ _ _ _ st k => k _ _ _ _ _ (Same.refl _) st (.v _) p⟩
instance {b : Bool} : SoE K (tC (.bl b)) (dC (.b b)) := ⟨fun p _ _ _ _ _ st k => k _ _ _ _ _ (Same.refl _) st (.v _) p⟩
instance {x : Str} : SoE K (tC (.str x)) (dC (.s x)) := ⟨fun p _ _ _ _ _ st k => k _ _ _ _ _ (Same.refl _) st (.v _) p⟩
instance : SoE K (tC .non) (dC .n) := ⟨fun p _ _ _ _ _ st k => k _ _ _ _ _ (Same.refl _) st (.v _) p⟩
instance {x : String} : SoE K (tC (.ty x)) (dC (.v (.ty x))) := ⟨fun p _ _ _ _ _ st k => k _ _ _ _ _ (Same.refl _) st (.v _) p⟩
/-- a constant of the module: what it is known to be -/
def dCR (K : PySem.W.Frag) (a : Addr) : DTE := fun _ μ P => P (.r a) μ ∨ ∃ d, (∀ I, At K I (.ref a) d) ∧ P d μ
instance {a : Addr} : SoE K (tC (.ref a)) (dCR K a) := ⟨fun h _ _ _ _ _ st k => h.elim (fun p => k _ _ _ _ _ (Same.refl _) st (.v _) p) fun ⟨d, q, p⟩ => k _ _ _ _ _ (Same.refl _) st (q _) p⟩
/-! operators -/
def dOp (dr : DR2) (da db : DTE) : DTE := fun ρ μ P => da ρ μ fun x μ1 => db ρ μ1 fun y μ2 => dr x y μ2 P
instance {r : R2} {ta tb : TE} {dr da db} [A : SoE K ta da] [B : SoE K tb db] [R : SoR K r dr] : SoE K (tOp r ta tb) (dOp dr da db) :=
  ⟨fun h _ _ _ _ he st k => A.run h he st fun u x I1 H1 μ1 s1 st1 a1 h1 => B.run h1 (he.to s1) st1 fun v y I2 H2 μ2 s2 st2 a2 h2 => R.run h2 st2 (a1.to s2) a2 fun w z I3 H3 μ3 s3 st3 a3 p => k w z I3 H3 μ3 ((s1.trans s2).trans s3) st3 a3 p⟩
def dUn (dr : DR1) (da : DTE) : DTE := fun ρ μ P => da ρ μ fun x μ1 => dr x μ1 P
instance {r : V → Hp → VK → Prop} {ta : TE} {dr da} [A : SoE K ta da] [R : SoU K r dr] : SoE K (tUn r ta) (dUn dr da) :=
  ⟨fun h _ _ _ _ he st k => A.run h he st fun u x I1 H1 μ1 s1 st1 a1 h1 => R.run h1 st1 a1 fun w z I3 H3 μ3 s3 st3 a3 p => k w z I3 H3 μ3 (s1.trans s3) st3 a3 p⟩
def dI0 (g : Int → Int → V) : DR2 := fun x y μ P => ∃ i j, x = .i i ∧ y = .i j ∧ P (.v (g i j)) μ
instance {g : Int → Int → V} : SoR K (rI0 g) (dI0 g) := ⟨fun ⟨i, j, e1, e2, p⟩ _ _ _ _ _ st a b k => by
  subst e1 e2
  exact ⟨i, j, a.val, b.val, k _ _ _ _ _ (Same.refl _) st (.v _) p⟩⟩
def dI (C : Int → Int → Prop) (g : Int → Int → V) : DR2 := fun x y μ P => ∃ i j, x = .i i ∧ y = .i j ∧ C i j ∧ P (.v (g i j)) μ
instance {C : Int → Int → Prop} {g : Int → Int → V} : SoR K (rI C g) (dI C g) := ⟨fun ⟨i, j, e1, e2, c, p⟩ _ _ _ _ _ st a b k => by
  subst e1 e2
  exact ⟨i, j, a.val, b.val, c, k _ _ _ _ _ (Same.refl _) st (.v _) p⟩⟩
def dU (g : Int → V) : DR1 := fun x μ P => ∃ i, x = .i i ∧ P (.v (g i)) μ
instance {g : Int → V} : SoU K (rU g) (dU g) := ⟨fun ⟨i, e1, p⟩ _ _ _ _ st a k => by
  subst e1
  exact ⟨i, a.val, k _ _ _ _ _ (Same.refl _) st (.v _) p⟩⟩
def dEq : DR2 := fun x y μ P => ∃ a b, x = .v a ∧ y = .v b ∧ scal a b = true ∧ P (.b (decide (a = b))) μ
instance : SoR K rEq dEq := ⟨fun ⟨a, b, e1, e2, c, p⟩ _ _ _ _ _ st h1 h2 k => by
  subst e1 e2
  rw [h1.val, h2.val]
  exact ⟨c, k _ _ _ _ _ (Same.refl _) st (.v _) p⟩⟩
def dNe : DR2 := fun x y μ P => ∃ a b, x = .v a ∧ y = .v b ∧ scal a b = true ∧ P (.b (!decide (a = b))) μ
instance : SoR K rNe dNe := ⟨fun ⟨a, b, e1, e2, c, p⟩ _ _ _ _ _ st h1 h2 k => by
  subst e1 e2
  rw [h1.val, h2.val]
  exact ⟨c, k _ _ _ _ _ (Same.refl _) st (.v _) p⟩⟩
/-- is None -/
def dIsN (g : Bool → Bool) : DR2 := fun x y μ P => y = .n ∧ ((∃ a, x = .v a ∧ P (.b (g (decide (a = .non)))) μ) ∨ ((∀ a, x ≠ .v a) ∧ P (.b (g false)) μ))
theorem At.nonv {I : Hp} {v : V} {d : Da} (h : At K I v d) (n : ∀ a, d ≠ .v a) : v ≠ .non := by
  cases h with
  | v _ => exact absurd rfl (n _)
  | lst _ _ => intro z; cases z
  | tup _ _ => intro z; cases z
  | rd _ _ => intro z; cases z
  | obj _ _ _ => intro z; cases z
instance : SoR K (fun x y H Q => y = .non ∧ Q (.bl (decide (x = .non))) H) (dIsN id) := ⟨fun ⟨e2, h⟩ u v I H Q st h1 h2 k => by
  subst e2
  refine ⟨h2.val, ?_⟩
  rcases h with ⟨a, e, p⟩ | ⟨n, p⟩
  · subst e
    rw [h1.val]
    exact k _ _ _ _ _ (Same.refl _) st (.v _) p
  · rw [decide_eq_false (h1.nonv n)]
    exact k _ _ _ _ _ (Same.refl _) st (.v _) p⟩
instance : SoR K (fun x y H Q => y = .non ∧ Q (.bl (!decide (x = .non))) H) (dIsN (!·)) := ⟨fun ⟨e2, h⟩ u v I H Q st h1 h2 k => by
  subst e2
  refine ⟨h2.val, ?_⟩
  rcases h with ⟨a, e, p⟩ | ⟨n, p⟩
  · subst e
    rw [h1.val]
    exact k _ _ _ _ _ (Same.refl _) st (.v _) p
  · rw [decide_eq_false (h1.nonv n)]
    exact k _ _ _ _ _ (Same.refl _) st (.v _) p⟩
/-! lists and tuples, read -/
def Lst (μ : Mu) (x : Da) (ds : List Da) : Prop := x = .lst ds ∨ x = .rd ds ∨ ∃ a, x = .r a ∧ μ a = some (.ml ds)
theorem Lst.l {μ : Mu} {ds : List Da} : Lst μ (.lst ds) ds := .inl rfl
theorem Lst.c {μ : Mu} {a : Addr} {ds : List Da} (h : μ a = some (.ml ds)) : Lst μ (.r a) ds := .inr (.inr ⟨a, rfl, h⟩)
theorem Lst.at_ {μ : Mu} {x : Da} {ds : List Da} {H I : Hp} {u : V} (h : Lst μ x ds) (st : StR K H I μ) (a : At K I u x) : ∃ p vs, u = .ref p ∧ SqL K H p vs ∧ AtAll K I vs ds := by
  rcases h with rfl | rfl | ⟨p, rfl, e⟩
  · cases a with | lst h1 h2 => exact ⟨_, _, rfl, SqL.of (st.same _ _ h1), h2⟩
  · cases a with | rd h1 h2 => exact ⟨_, _, rfl, st.same.seq h1, h2⟩
  · obtain ⟨_, vs, h1, h2⟩ := st.cell p _ e
    exact ⟨p, vs, a.val, SqL.of h1, h2⟩
/-- a list that stands as such (not the script) -/
def LstT (μ : Mu) (x : Da) (ds : List Da) : Prop := x = .lst ds ∨ ∃ a, x = .r a ∧ μ a = some (.ml ds)
theorem LstT.at_ {μ : Mu} {x : Da} {ds : List Da} {H I : Hp} {u : V} (h : LstT μ x ds) (st : StR K H I μ) (a : At K I u x) : ∃ p vs, u = .ref p ∧ H p = some (.lst vs) ∧ AtAll K I vs ds := by
  rcases h with rfl | ⟨p, rfl, e⟩
  · cases a with | lst h1 h2 => exact ⟨_, _, rfl, st.same _ _ h1, h2⟩
  · obtain ⟨_, vs, h1, h2⟩ := st.cell p _ e
    exact ⟨p, vs, a.val, h1, h2⟩
theorem At.tupd {I : Hp} {u : V} {ds : List Da} (a : At K I u (.tup ds)) : ∃ p vs, u = .ref p ∧ SqT K I p vs ∧ AtAll K I vs ds := by
  cases a with | tup h1 h2 => exact ⟨_, _, rfl, h1, h2⟩
def Sq (μ : Mu) (x : Da) (ds : List Da) : Prop := Lst μ x ds ∨ x = .tup ds
theorem Sq.l {μ : Mu} {ds : List Da} : Sq μ (.lst ds) ds := .inl .l
theorem Sq.t {μ : Mu} {ds : List Da} : Sq μ (.tup ds) ds := .inr rfl
theorem Sq.at_ {μ : Mu} {x : Da} {ds : List Da} {H I : Hp} {u : V} (h : Sq μ x ds) (st : StR K H I μ) (a : At K I u x) : ∃ p vs, u = .ref p ∧ (SqL K H p vs ∨ SqT K H p vs) ∧ AtAll K I vs ds := by
  rcases h with h | rfl
  · obtain ⟨p, vs, e, h1, h2⟩ := h.at_ st a
    exact ⟨p, vs, e, .inl h1, h2⟩
  · obtain ⟨p, vs, e, h1, h2⟩ := a.tupd
    exact ⟨p, vs, e, .inr (same_T st.same h1), h2⟩
theorem AtAll.ixN {I : Hp} {vs : List V} {ds : List Da} {i : Int} {d : Da} (h : AtAll K I vs ds) (e : atI ds i = some d) : ∃ v, atI vs i = some v ∧ At K I v d := by
  unfold atI at e ⊢
  rw [h.length]
  cases q : L2.ixN ds.length i with
  | none => rw [q] at e; cases e
  | some j =>
    rw [q] at e
    obtain ⟨v, a, b⟩ := h.get' (i := j) e
    exact ⟨v, a, b⟩
def dIxL : DR2 := fun x y μ P => ∃ ds i d, Lst μ x ds ∧ y = .i i ∧ atI ds i = some d ∧ P d μ
instance : SoR K (rIxL K) dIxL := ⟨fun ⟨ds, i, d, l, e, h, p⟩ _ _ _ _ _ st a b k => by
  subst e
  obtain ⟨q, vs, e1, h1, h2⟩ := l.at_ st a
  obtain ⟨v, h3, h4⟩ := h2.ixN h
  exact ⟨q, vs, i, v, e1, b.val, h1, h3, k _ _ _ _ _ (Same.refl _) st h4 p⟩⟩
def dIxT : DR2 := fun x y μ P => ∃ ds i d, x = .tup ds ∧ y = .i i ∧ atI ds i = some d ∧ P d μ
instance : SoR K (rIxT K) dIxT := ⟨fun ⟨ds, i, d, l, e, h, p⟩ _ _ _ _ _ st a b k => by
  subst e l
  obtain ⟨q, vs, e1, h1, h2⟩ := a.tupd
  obtain ⟨v, h3, h4⟩ := h2.ixN h
  exact ⟨q, vs, i, v, e1, b.val, same_T st.same h1, h3, k _ _ _ _ _ (Same.refl _) st h4 p⟩⟩
def dIn (neg : Bool) : DR2 := fun x y μ P => ∃ a us, x = .v a ∧ Sq μ y (us.map Da.v) ∧ flatV a = true ∧ us.all flatV = true ∧ P (.b (if neg then !inV a us else inV a us)) μ
instance {neg : Bool} : SoR K (rIn K neg) (dIn neg) := ⟨fun ⟨a, us, e, l, f, fs, p⟩ _ _ _ _ _ st h1 h2 k => by
  subst e
  obtain ⟨q, vs, e1, h3, h4⟩ := l.at_ st h2
  rw [h4.vals] at h3
  rw [h1.val]
  exact ⟨q, us, e1, h3, f, fs, k _ _ _ _ _ (Same.refl _) st (.v _) p⟩⟩
/-- P of a new list, as data or as a cell -/
def NewL (ds : List Da) (μ : Mu) (P : DP) : Prop := P (.lst ds) μ ∨ ∀ p, μ p = none → P (.r p) (setM μ p (.ml ds))
theorem NewL.run {ds : List Da} {vs : List V} {μ : Mu} {P : DP} {H I : Hp} {Q : VK} {p : Addr} (h : NewL ds μ P) (st : StR K H I μ) (a : AtAll K I vs ds) (k : CoE K I P Q) (hp : H p = none) : Q (.ref p) (upd H p (.lst vs)) := by
  rcases h with h | h
  · exact k _ _ _ _ _ (same_new (st.noI hp)) (st.new hp) (.lst upd_same (a.to (same_new (st.noI hp)))) h
  · exact k _ _ _ _ _ (Same.refl _) (st.newM hp (c := .ml ds) ⟨vs, rfl, a⟩) (.v _) (h p (st.noM hp))
theorem newT {ds : List Da} {vs : List V} {μ : Mu} {P : DP} {H I : Hp} {Q : VK} {p : Addr} (h : P (.tup ds) μ) (st : StR K H I μ) (a : AtAll K I vs ds) (k : CoE K I P Q) (hp : H p = none) : Q (.ref p) (upd H p (.tup vs)) :=
  k _ _ _ _ _ (same_new (st.noI hp)) (st.new hp) (.tup (SqT.of upd_same) (a.to (same_new (st.noI hp)))) h
def dCat : DR2 := fun x y μ P => ∃ ds es, LstT μ x ds ∧ LstT μ y es ∧ ds.length + es.length ≤ sizeLine ∧ NewL (ds ++ es) μ P
instance : SoR K rCat dCat := ⟨fun ⟨ds, es, l1, l2, hz, h⟩ _ _ _ _ _ st a b k => by
  obtain ⟨p, vs, e1, h1, h2⟩ := l1.at_ st a
  obtain ⟨q, ws, e2, h3, h4⟩ := l2.at_ st b
  exact ⟨p, q, vs, ws, e1, e2, h1, h3, by rw [h2.length, h4.length]; exact hz, fun r hr => h.run st (h2.app h4) k hr⟩⟩
def dRep : DR2 := fun x y μ P => ∃ (ds : List Da) (n : Nat), LstT μ x ds ∧ y = .i n ∧ (n : Int) < 2 ^ 63 ∧ ds.length * n ≤ sizeLine ∧ NewL (List.replicate n ds).flatten μ P
instance : SoR K rRep dRep := ⟨fun ⟨ds, n, l1, e, hn, hz, h⟩ _ _ _ _ _ st a b k => by
  subst e
  obtain ⟨p, vs, e1, h1, h2⟩ := l1.at_ st a
  refine ⟨p, n, vs, e1, b.val, h1, by omega, hn, by rw [h2.length, Int.toNat_natCast]; exact hz, fun r hr => ?_⟩
  rw [Int.toNat_natCast]
  exact h.run st (h2.rep n) k hr⟩
/-! tests -/
def dTest (da : DTE) : DTT := fun ρ μ P => da ρ μ fun x μ1 => ∃ c, x = .b c ∧ P c μ1
instance {ta : TE} {da} [A : SoE K ta da] : SoT K (tTest ta) (dTest da) := ⟨fun h _ _ _ _ he st k => A.run h he st fun u x I1 H1 μ1 s1 st1 a1 ⟨c, e, p⟩ => by
  subst e
  exact ⟨c, a1.val, k c I1 H1 μ1 s1 st1 p⟩⟩
instance {ta : TE} {da} [A : SoE K ta da] : SoT K (tB ta) (dTest da) := ⟨fun h _ _ _ _ he st k => A.run h he st fun u x I1 H1 μ1 s1 st1 a1 ⟨c, e, p⟩ => by
  subst e
  exact ⟨c, a1.val, k c I1 H1 μ1 s1 st1 p⟩⟩
def dAnd (da db : DTT) : DTT := fun ρ μ P => da ρ μ fun c μ1 => if c = true then db ρ μ1 P else P false μ1
instance {ta tb : TT} {da db} [A : SoT K ta da] [B : SoT K tb db] : SoT K (tAnd ta tb) (dAnd da db) := ⟨fun h _ _ _ _ he st k => A.run h he st fun c I1 H1 μ1 s1 st1 p => by
  cases c with
  | true => exact B.run (show db _ _ _ from p) (he.to s1) st1 fun b I2 H2 μ2 s2 st2 q => k b I2 H2 μ2 (s1.trans s2) st2 q
  | false => exact k false I1 H1 μ1 s1 st1 p⟩
def dOr (da db : DTT) : DTT := fun ρ μ P => da ρ μ fun c μ1 => if c = true then P true μ1 else db ρ μ1 P
instance {ta tb : TT} {da db} [A : SoT K ta da] [B : SoT K tb db] : SoT K (tOr ta tb) (dOr da db) := ⟨fun h _ _ _ _ he st k => A.run h he st fun c I1 H1 μ1 s1 st1 p => by
  cases c with
  | false => exact B.run (show db _ _ _ from p) (he.to s1) st1 fun b I2 H2 μ2 s2 st2 q => k b I2 H2 μ2 (s1.trans s2) st2 q
  | true => exact k true I1 H1 μ1 s1 st1 p⟩
def dNot (da : DTT) : DTT := fun ρ μ P => da ρ μ fun c μ1 => P (!c) μ1
instance {ta : TT} {da} [A : SoT K ta da] : SoT K (tNot ta) (dNot da) := ⟨fun h _ _ _ _ he st k => A.run h he st fun c I1 H1 μ1 s1 st1 p => k _ I1 H1 μ1 s1 st1 p⟩
def dYes : DTT := fun _ μ P => P true μ
instance : SoT K tYes dYes := ⟨fun h _ _ _ _ _ st k => k _ _ _ _ (Same.refl _) st h⟩
def dAndV (da db : DTE) : DTE := fun ρ μ P => da ρ μ fun x μ1 => ∃ c, x = .b c ∧ if c = true then db ρ μ1 P else P (.b false) μ1
instance {ta tb : TE} {da db} [A : SoE K ta da] [B : SoE K tb db] : SoE K (tAndV ta tb) (dAndV da db) := ⟨fun h _ _ _ _ he st k => A.run h he st fun u x I1 H1 μ1 s1 st1 a1 ⟨c, e, p⟩ => by
  subst e
  refine ⟨c, a1.val, ?_⟩
  cases c with
  | true => exact B.run (show db _ _ _ from p) (he.to s1) st1 fun v y I2 H2 μ2 s2 st2 a2 q => k v y I2 H2 μ2 (s1.trans s2) st2 a2 q
  | false => exact k _ _ I1 H1 μ1 s1 st1 (.v _) p⟩
def dOrV (da db : DTE) : DTE := fun ρ μ P => da ρ μ fun x μ1 => ∃ c, x = .b c ∧ if c = true then P (.b true) μ1 else db ρ μ1 P
instance {ta tb : TE} {da db} [A : SoE K ta da] [B : SoE K tb db] : SoE K (tOrV ta tb) (dOrV da db) := ⟨fun h _ _ _ _ he st k => A.run h he st fun u x I1 H1 μ1 s1 st1 a1 ⟨c, e, p⟩ => by
  subst e
  refine ⟨c, a1.val, ?_⟩
  cases c with
  | false => exact B.run (show db _ _ _ from p) (he.to s1) st1 fun v y I2 H2 μ2 s2 st2 a2 q => k v y I2 H2 μ2 (s1.trans s2) st2 a2 q
  | true => exact k _ _ I1 H1 μ1 s1 st1 (.v _) p⟩
def dNotV (da : DTE) : DTE := fun ρ μ P => da ρ μ fun x μ1 => ∃ c, x = .b c ∧ P (.b (!c)) μ1
instance {ta : TE} {da} [A : SoE K ta da] : SoE K (tNotV ta) (dNotV da) := ⟨fun h _ _ _ _ he st k => A.run h he st fun u x I1 H1 μ1 s1 st1 a1 ⟨c, e, p⟩ => by
  subst e
  exact ⟨c, a1.val, k _ _ I1 H1 μ1 s1 st1 (.v _) p⟩⟩
def dIf (dt : DTT) (da db : DTE) : DTE := fun ρ μ P => dt ρ μ fun c μ1 => if c = true then da ρ μ1 P else db ρ μ1 P
instance {t : TT} {ta tb : TE} {dt da db} [T : SoT K t dt] [A : SoE K ta da] [B : SoE K tb db] : SoE K (tIf t ta tb) (dIf dt da db) := ⟨fun h _ _ _ _ he st k => T.run h he st fun c I1 H1 μ1 s1 st1 p => by
  cases c with
  | true => exact A.run (show da _ _ _ from p) (he.to s1) st1 fun v y I2 H2 μ2 s2 st2 a2 q => k v y I2 H2 μ2 (s1.trans s2) st2 a2 q
  | false => exact B.run (show db _ _ _ from p) (he.to s1) st1 fun v y I2 H2 μ2 s2 st2 a2 q => k v y I2 H2 μ2 (s1.trans s2) st2 a2 q⟩
def dChain (dr dr' : DR2) (da db dc : DTE) : DTE := fun ρ μ P => da ρ μ fun x μ1 => db ρ μ1 fun y μ2 => dr x y μ2 fun z μ3 => ∃ k, z = .b k ∧ if k = true then dc ρ μ3 fun w μ4 => dr' y w μ4 P else P (.b false) μ3
/-! displays, arguments, calls -/
def dNil : DTA := fun _ μ P => P [] μ
instance : SoA K tNil dNil := ⟨fun h _ _ _ _ _ st k => k _ _ _ _ _ (Same.refl _) st .nil h⟩
def dCons (da : DTE) (dr : DTA) : DTA := fun ρ μ P => da ρ μ fun x μ1 => dr ρ μ1 fun xs μ2 => P (x :: xs) μ2
instance {ta : TE} {tr : TA} {da dr} [A : SoE K ta da] [R : SoA K tr dr] : SoA K (tCons ta tr) (dCons da dr) := ⟨fun h _ _ _ _ he st k => A.run h he st fun u x I1 H1 μ1 s1 st1 a1 h1 => R.run h1 (he.to s1) st1 fun us xs I2 H2 μ2 s2 st2 a2 h2 => k _ _ I2 H2 μ2 (s1.trans s2) st2 (.cons (a1.to s2) a2) h2⟩
def dTup (da : DTA) : DTE := fun ρ μ P => da ρ μ fun ds μ1 => ds.length ≤ sizeLine ∧ P (.tup ds) μ1
instance {ta : TA} {da} [A : SoA K ta da] : SoE K (tTup ta) (dTup da) := ⟨fun h _ _ _ _ he st k => A.run h he st fun vs ds I1 H1 μ1 s1 st1 a1 ⟨hz, p⟩ => ⟨by rw [a1.length]; exact hz, fun p' hp => newT (P := fun d m => _) p st1 a1 (CoE.to s1 k) hp⟩⟩
def dLst (da : DTA) : DTE := fun ρ μ P => da ρ μ fun ds μ1 => ds.length ≤ sizeLine ∧ NewL ds μ1 P
instance {ta : TA} {da} [A : SoA K ta da] : SoE K (tLst ta) (dLst da) := ⟨fun h _ _ _ _ he st k => A.run h he st fun vs ds I1 H1 μ1 s1 st1 a1 ⟨hz, p⟩ => ⟨by rw [a1.length]; exact hz, fun p' hp => p.run st1 a1 (CoE.to s1 k) hp⟩⟩
def dCall (dsp : DSp) (da : DTA) : DTE := fun ρ μ P => da ρ μ fun ds μ1 => dsp ds μ1 P
instance {dsp : DSp} {E : XK} {ta : TA} {da} [A : SoA K ta da] : SoE K (tCall (spD K dsp) [] E ta) (dCall dsp da) := ⟨fun h _ _ _ _ he st k => A.run h he st fun vs ds I1 H1 μ1 s1 st1 a1 p => by
  show spD K dsp (vs ++ []) _ _ _
  rw [List.append_nil]
  exact ⟨I1, μ1, ds, _, st1, a1, p, CoE.to s1 k⟩⟩
/-- defaults -/
def dCallD (K : PySem.W.Frag) (dvs : List V) (dsp : DSp) (da : DTA) : DTE := fun ρ μ P => da ρ μ fun ds μ1 => ∃ es, (∀ I, AtAll K I dvs es) ∧ dsp (ds ++ es) μ1 P
instance {dsp : DSp} {v : V} {dvs : List V} {E : XK} {ta : TA} {da} [A : SoA K ta da] : SoE K (tCall (spD K dsp) (v :: dvs) E ta) (dCallD K (v :: dvs) dsp da) := ⟨fun h _ _ _ _ he st k => A.run h he st fun vs ds I1 H1 μ1 s1 st1 a1 ⟨es, he, p⟩ => ⟨I1, μ1, ds ++ es, _, st1, a1.app (he I1), p, CoE.to s1 k⟩⟩
/-- an instance, as data or as a cell, with its fields -/
def Ins (C : Addr) (μ : Mu) (x : Da) (ns : List Str) (ds : List Da) : Prop := x = .obj C ns ds ∨ ∃ a, x = .r a ∧ μ a = some (.mi C ns ds)
theorem Ins.o {C : Addr} {μ : Mu} {ns : List Str} {ds : List Da} : Ins C μ (.obj C ns ds) ns ds := .inl rfl
theorem Ins.c {C a : Addr} {μ : Mu} {ns : List Str} {ds : List Da} (h : μ a = some (.mi C ns ds)) : Ins C μ (.r a) ns ds := .inr ⟨a, rfl, h⟩
theorem Ins.at_ {C : Addr} {μ : Mu} {x : Da} {ns : List Str} {ds : List Da} {H I : Hp} {u : V} (h : Ins C μ x ns ds) (st : StR K H I μ) (a : At K I u x) : ∃ p dx fs, u = .ref p ∧ H p = some (.ins C dx fs) ∧ fs.map (·.1) = ns ∧ AtAll K I (fs.map (·.2)) ds := by
  rcases h with rfl | ⟨p, rfl, e⟩
  · cases a with | obj h1 h2 h3 => exact ⟨_, _, _, rfl, st.same _ _ h1, h2, h3⟩
  · obtain ⟨_, dx, fs, h1, h2, h3⟩ := st.cell p _ e
    exact ⟨p, dx, fs, a.val, h1, h2, h3⟩
def fld : List Str → List Da → Str → Option Da
  | n :: ns, d :: ds, f => if n = f then some d else fld ns ds f
  | _, _, _ => none
theorem fld_lookup {I : Hp} {f : Str} : ∀ {fs : List (Str × V)} {ds : List Da} {d : Da}, AtAll K I (fs.map (·.2)) ds → fld (fs.map (·.1)) ds f = some d → ∃ v, fs.lookup f = some v ∧ At K I v d
  | [], _, _, _, h => by simp [fld] at h
  | (n, v) :: fs, ds, d, a, h => by
    match ds, a with
    | d0 :: ds, .cons a1 a2 =>
      have h' : (if n = f then some d0 else fld (fs.map (·.1)) ds f) = some d := h
      by_cases e : n = f
      · subst e
        rw [if_pos rfl] at h'
        cases h'
        refine ⟨v, ?_, a1⟩
        rw [List.lookup_cons, beq_self_eq_true]
      · rw [if_neg e] at h'
        obtain ⟨w, h1, h2⟩ := fld_lookup a2 h'
        refine ⟨w, ?_, h2⟩
        rw [List.lookup_cons, beq_eq_false_iff_ne.mpr (Ne.symm e)]
        exact h1
theorem lookup_no {f : Str} : ∀ {fs : List (Str × V)}, f ∉ fs.map (·.1) → fs.lookup f = none
  | [], _ => rfl
  | (n, v) :: fs, h => by
    rw [List.lookup_cons]
    have h1 : f ≠ n := fun z => h (by rw [z]; exact List.mem_cons_self)
    rw [beq_eq_false_iff_ne.mpr h1]
    exact lookup_no fun z => h (List.mem_cons_of_mem _ z)
def dFld (K : PySem.W.Frag) (da : DTE) (f : Str) : DTE := fun ρ μ P => da ρ μ fun x μ1 => ∃ C ns ds d, Ins C μ1 x ns ds ∧ Cls K C ∧ NoAttr K C f ∧ fld ns ds f = some d ∧ P d μ1
instance {ta : TE} {f : Str} {da} [A : SoE K ta da] : SoE K (tFld K ta f) (dFld K da f) := ⟨fun h _ _ _ _ he st k => A.run h he st fun u x I1 H1 μ1 s1 st1 a1 ⟨C, ns, ds, d, hi, c, n, hf, p⟩ => by
  obtain ⟨q, dx, fs, e, h1, h2, h3⟩ := hi.at_ st1 a1
  subst h2
  obtain ⟨v, h4, h5⟩ := fld_lookup h3 hf
  exact ⟨q, C, dx, fs, v, e, h1, c, n, h4, k _ _ I1 H1 μ1 s1 st1 h5 p⟩⟩
def dCon (K : PySem.W.Frag) (da : DTE) (f : Str) : DTE := fun ρ μ P => da ρ μ fun x μ1 => ∃ C ns ds v u, Ins C μ1 x ns ds ∧ Cls K C ∧ Con K C f v u ∧ f ∉ ns ∧ P (.v v) μ1
instance {ta : TE} {f : Str} {da} [A : SoE K ta da] : SoE K (tCon K ta f) (dCon K da f) := ⟨fun h _ _ _ _ he st k => A.run h he st fun u x I1 H1 μ1 s1 st1 a1 ⟨C, ns, ds, v, w, hi, c, n, hf, p⟩ => by
  obtain ⟨q, dx, fs, e, h1, h2, h3⟩ := hi.at_ st1 a1
  subst h2
  exact ⟨q, C, dx, fs, v, w, e, h1, c, n, lookup_no hf, k _ _ I1 H1 μ1 s1 st1 (.v _) p⟩⟩
def dCVal (K : PySem.W.Frag) (da : DTE) (f : Str) : DTE := fun ρ μ P => da ρ μ fun x μ1 => ∃ C mc v w, x = .r C ∧ ClX.CRead K C mc ∧ ClX.CVal K C mc f v w ∧ P (.v v) μ1
instance {ta : TE} {f : Str} {da} [A : SoE K ta da] : SoE K (ClX.tCVal K ta f) (dCVal K da f) := ⟨fun h _ _ _ _ he st k => A.run h he st fun u x I1 H1 μ1 s1 st1 a1 ⟨C, mc, v, w, e, c, n, p⟩ => by
  subst e
  exact ⟨C, mc, v, w, a1.val, c, n, k _ _ I1 H1 μ1 s1 st1 (.v _) p⟩⟩
def dMeth (C : Addr) (m : Str) (dsp : DSp) (da : DTE) (dr : DTA) : DTE := fun ρ μ P => da ρ μ fun x μ1 => ∃ ns ds, Ins C μ1 x ns ds ∧ m ∉ ns ∧ dr ρ μ1 fun ys μ2 => dsp (x :: ys) μ2 P
instance {C : Addr} {m : Str} {dsp : DSp} {E : XK} {ta : TE} {tr : TA} {da dr} [A : SoE K ta da] [R : SoA K tr dr] : SoE K (tMeth C m (spD K dsp) [] E ta tr) (dMeth C m dsp da dr) := ⟨fun h _ _ _ _ he st k => A.run h he st fun u x I1 H1 μ1 s1 st1 a1 ⟨ns, ds, hi, n, h1⟩ => by
  obtain ⟨q, dx, fs, e, h1', h2, h3⟩ := hi.at_ st1 a1
  subst h2 e
  refine ⟨q, dx, fs, rfl, h1', lookup_no n, R.run h1 (he.to s1) st1 fun us xs I2 H2 μ2 s2 st2 a2 p => ?_⟩
  rw [List.append_nil]
  exact ⟨I2, μ2, x :: xs, _, st2, .cons (a1.to s2) a2, p, CoE.to (s1.trans s2) k⟩⟩
def dProp (C : Addr) (dsp : DSp) (da : DTE) : DTE := fun ρ μ P => da ρ μ fun x μ1 => ∃ ns ds, Ins C μ1 x ns ds ∧ dsp [x] μ1 P
instance {C : Addr} {dsp : DSp} {E : XK} {ta : TE} {da} [A : SoE K ta da] : SoE K (tProp C (spD K dsp) [] E ta) (dProp C dsp da) := ⟨fun h _ _ _ _ he st k => A.run h he st fun u x I1 H1 μ1 s1 st1 a1 ⟨ns, ds, hi, h1⟩ => by
  obtain ⟨q, dx, fs, e, h1', h2, h3⟩ := hi.at_ st1 a1
  subst h2 e
  exact ⟨q, dx, fs, rfl, h1', I1, μ1, [x], _, st1, .cons a1 .nil, h1, CoE.to s1 k⟩⟩
/-- a new instance by its __init__ -/
def dMake (C : Addr) (dsp : DSp) (da : DTA) : DTE := fun ρ μ P => da ρ μ fun ds μ1 => ∀ x, μ1 x = none → dsp (.r x :: ds) (setM μ1 x (.mi C [] [])) fun r μ2 => r = .n ∧ ∃ ns gs, μ2 x = some (.mi C ns gs) ∧ (P (.obj C ns gs) (remM μ2 x) ∨ P (.r x) μ2)
theorem make_run {C : Addr} {dsp : DSp} {E : XK} {vs : List V} {ds : List Da} {I H : Hp} {μ : Mu} {P : DP} {Q : VK} (st : StR K H I μ) (a : AtAll K I vs ds) (k : CoE K I P Q)
    (h : ∀ x, μ x = none → dsp (.r x :: ds) (setM μ x (.mi C [] [])) fun r μ2 => r = .n ∧ ∃ ns gs, μ2 x = some (.mi C ns gs) ∧ (P (.obj C ns gs) (remM μ2 x) ∨ P (.r x) μ2)) :
    ∀ x dx, H x = none → H dx = none → dx ≠ x → spD K dsp (.ref x :: vs) (upd (upd H dx (.own x)) x (.ins C dx [])) (fun v H2 => v = .non ∧ Q (.ref x) H2) E := fun x dx hx hdx ne => by
  have st1 : StR K (upd H dx (.own x)) I μ := st.lay hdx
  have hx1 : upd H dx (.own x) x = none := by rw [upd_ne ne.symm]; exact hx
  refine ⟨I, _, .r x :: ds, _, st1.newM hx1 (c := .mi C [] []) ⟨dx, [], rfl, rfl, .nil⟩, .cons (.v _) a, h x (st.noM hx), fun v d I' H' μ' s st' a' ⟨e, ns, gs, h1, h2⟩ => ?_⟩
  subst e
  refine ⟨a'.val, ?_⟩
  rcases h2 with h2 | h2
  · obtain ⟨J, s2, st2, a2⟩ := st'.frzI h1
    exact k _ _ J H' _ (s.trans s2) st2 a2 h2
  · exact k _ _ I' H' _ s st' (.v _) h2
instance {C : Addr} {dsp : DSp} {E : XK} {ta : TA} {da} [A : SoA K ta da] : SoE K (tMake C (spD K dsp) [] E ta) (dMake C dsp da) := ⟨fun h _ _ _ _ he st k => A.run h he st fun vs ds I1 H1 μ1 s1 st1 a1 p => by
  intro x dx hx hdx ne
  rw [List.append_nil]
  exact make_run st1 a1 (CoE.to s1 k) p x dx hx hdx ne⟩
def dMakeD (K : PySem.W.Frag) (C : Addr) (dvs : List V) (dsp : DSp) (da : DTA) : DTE := fun ρ μ P => da ρ μ fun ds μ1 => ∃ es, (∀ I, AtAll K I dvs es) ∧ ∀ x, μ1 x = none → dsp (.r x :: (ds ++ es)) (setM μ1 x (.mi C [] [])) fun r μ2 => r = .n ∧ ∃ ns gs, μ2 x = some (.mi C ns gs) ∧ (P (.obj C ns gs) (remM μ2 x) ∨ P (.r x) μ2)
instance {C : Addr} {dsp : DSp} {E : XK} {v : V} {dvs : List V} {ta : TA} {da} [A : SoA K ta da] : SoE K (tMake C (spD K dsp) (v :: dvs) E ta) (dMakeD K C (v :: dvs) dsp da) := ⟨fun h _ _ _ _ he st k => A.run h he st fun vs ds I1 H1 μ1 s1 st1 a1 ⟨es, hes, p⟩ => by
  intro x dx hx hdx ne
  exact make_run st1 (a1.app (hes I1)) (CoE.to s1 k) p x dx hx hdx ne⟩
/-- an instance that is called -/
def dCallO (C : Addr) (dsp : DSp) (da : DTE) (dr : DTA) : DTE := fun ρ μ P => da ρ μ fun x μ1 => ∃ ns ds, Ins C μ1 x ns ds ∧ dr ρ μ1 fun ys μ2 => (∃ ns' ds', Ins C μ2 x ns' ds') ∧ dsp (x :: ys) μ2 P
end
end LL

namespace LL
open PySem L2 PySem.Spec PyProof.Rows
section
variable {K : PySem.W.Frag}
/-! built-in calls -/
def dCB (dr : DRC) (da : DTA) : DTE := fun ρ μ P => da ρ μ fun ds μ1 => dr ds μ1 P
instance {r : List V → Hp → VK → Prop} {ta : TA} {dr da} [R : SoC K r dr] [A : SoA K ta da] : SoE K (tCB r ta) (dCB dr da) := ⟨fun h _ _ _ _ he st k => A.run h he st fun vs ds I1 H1 μ1 s1 st1 a1 p => R.run p st1 a1 (CoE.to s1 k)⟩
theorem AtAll.one {I : Hp} {us : List V} {x : Da} (h : AtAll K I us [x]) : ∃ u, us = [u] ∧ At K I u x := by
  cases h with | cons a b => cases b; exact ⟨_, rfl, a⟩
theorem AtAll.two {I : Hp} {us : List V} {x y : Da} (h : AtAll K I us [x, y]) : ∃ u v, us = [u, v] ∧ At K I u x ∧ At K I v y := by
  cases h with | cons a b => cases b with | cons a' b' => cases b'; exact ⟨_, _, rfl, a, a'⟩
def dLen : DRC := fun xs μ P => ∃ x ds, xs = [x] ∧ Sq μ x ds ∧ P (.i ds.length) μ
instance : SoC K (fun xs H Q => ∃ p ys, xs = [.ref p] ∧ (SqL K H p ys ∨ SqT K H p ys) ∧ Q (.int ys.length) H) dLen := ⟨fun ⟨x, ds, e, l, p⟩ _ _ _ _ st a0 k => by
  subst e
  obtain ⟨u, rfl, a⟩ := a0.one
  obtain ⟨q, vs, rfl, h1, h2⟩ := l.at_ st a
  refine ⟨q, vs, rfl, h1, ?_⟩
  rw [h2.length]
  exact k _ _ _ _ _ (Same.refl _) st (.v _) p⟩
def dListOf : DRC := fun xs μ P => ∃ x ds, xs = [x] ∧ Sq μ x ds ∧ NewL ds μ P
instance : SoC K (fun xs H Q => ∃ p ys, xs = [.ref p] ∧ (SqL K H p ys ∨ SqT K H p ys) ∧ ∀ l, H l = none → Q (.ref l) (upd H l (.lst ys))) dListOf := ⟨fun ⟨x, ds, e, l, p⟩ _ _ _ _ st a0 k => by
  subst e
  obtain ⟨u, rfl, a⟩ := a0.one
  obtain ⟨q, vs, rfl, h1, h2⟩ := l.at_ st a
  exact ⟨q, vs, rfl, h1, fun r hr => p.run st h2 k hr⟩⟩
def dTupleOf : DRC := fun xs μ P => ∃ x ds, xs = [x] ∧ Sq μ x ds ∧ P (.tup ds) μ
instance : SoC K (fun xs H Q => ∃ p ys, xs = [.ref p] ∧ ((SqL K H p ys ∧ ∀ l, H l = none → Q (.ref l) (upd H l (.tup ys))) ∨ (SqT K H p ys ∧ Q (.ref p) H))) dTupleOf := ⟨fun ⟨x, ds, e, l, p⟩ _ _ _ _ st a0 k => by
  subst e
  obtain ⟨u, rfl, a⟩ := a0.one
  rcases l with l | rfl
  · obtain ⟨q, vs, rfl, h1, h2⟩ := l.at_ st a
    exact ⟨q, vs, rfl, .inl ⟨h1, fun r hr => newT p st h2 k hr⟩⟩
  · obtain ⟨q, vs, rfl, h1, h2⟩ := a.tupd
    exact ⟨q, vs, rfl, .inr ⟨same_T st.same h1, k _ _ _ _ _ (Same.refl _) st a p⟩⟩⟩
def d2I (g : Int → Int → Int) : DRC := fun xs μ P => ∃ i j, xs = [.i i, .i j] ∧ P (.i (g i j)) μ
instance {g : Int → Int → Int} : SoC K (fun xs H Q => ∃ i j, xs = [.int i, .int j] ∧ Q (.int (g i j)) H) (d2I g) := ⟨fun ⟨i, j, e, p⟩ _ _ _ _ st a0 k => by
  subst e
  obtain ⟨u, v, rfl, a, b⟩ := a0.two
  exact ⟨i, j, by rw [a.val, b.val], k _ _ _ _ _ (Same.refl _) st (.v _) p⟩⟩
def d1I (g : Int → Int) : DRC := fun xs μ P => ∃ i, xs = [.i i] ∧ P (.i (g i)) μ
instance {g : Int → Int} : SoC K (fun xs H Q => ∃ i, xs = [.int i] ∧ Q (.int (g i)) H) (d1I g) := ⟨fun ⟨i, e, p⟩ _ _ _ _ st a0 k => by
  subst e
  obtain ⟨u, rfl, a⟩ := a0.one
  exact ⟨i, by rw [a.val], k _ _ _ _ _ (Same.refl _) st (.v _) p⟩⟩
def dInt1 : DRC := fun xs μ P => ∃ i, xs = [.i i] ∧ P (.i i) μ
instance : SoC K (fun xs H Q => (∃ i, xs = [.int i] ∧ Q (.int i) H) ∨ ∃ k, xs = [.bl k] ∧ Q (.int (if k then 1 else 0)) H) dInt1 := ⟨fun ⟨i, e, p⟩ _ _ _ _ st a0 k => by
  subst e
  obtain ⟨u, rfl, a⟩ := a0.one
  exact .inl ⟨i, by rw [a.val], k _ _ _ _ _ (Same.refl _) st (.v _) p⟩⟩
def dDivmod : DRC := fun xs μ P => ∃ i j, xs = [.i i, .i j] ∧ CDiv i j ∧ P (.tup [.i (i / j), .i (i % j)]) μ
instance : SoC K (fun xs H Q => ∃ i j, xs = [.int i, .int j] ∧ CDiv i j ∧ ∀ p, H p = none → Q (.ref p) (upd H p (.tup [.int (i / j), .int (i % j)]))) dDivmod := ⟨fun ⟨i, j, e, c, p⟩ _ _ _ _ st a0 k => by
  subst e
  obtain ⟨u, v, rfl, a, b⟩ := a0.two
  exact ⟨i, j, by rw [a.val, b.val], c, fun r hr => newT p st (.cons (.v _) (.cons (.v _) .nil)) k hr⟩⟩
def dInts (f : List Int → Mu → DP → Prop) : DRC := fun xs μ P => ∃ x ns, xs = [x] ∧ Lst μ x (ns.map Da.i) ∧ f ns μ P
theorem ints_vals {ns : List Int} : ns.map Da.i = (ns.map V.int).map Da.v := by rw [List.map_map]; rfl
theorem Lst.ints {μ : Mu} {x : Da} {ns : List Int} {H I : Hp} {u : V} (h : Lst μ x (ns.map Da.i)) (st : StR K H I μ) (a : At K I u x) : ∃ p, u = .ref p ∧ SqL K H p (ns.map V.int) := by
  obtain ⟨p, vs, e, h1, h2⟩ := h.at_ st a
  rw [ints_vals] at h2
  rw [h2.vals] at h1
  exact ⟨p, e, h1⟩
instance : SoC K (rSum K) (dInts fun ns μ P => P (.i ns.sum) μ) := ⟨fun ⟨x, ns, e, l, p⟩ _ _ _ _ st a0 k => by
  subst e
  obtain ⟨u, rfl, a⟩ := a0.one
  obtain ⟨q, rfl, h⟩ := l.ints st a
  exact ⟨q, ns, rfl, h, k _ _ _ _ _ (Same.refl _) st (.v _) p⟩⟩
instance : SoC K (rMax K) (dInts fun ns μ P => 0 < ns.length ∧ ∀ m, m ∈ ns → (∀ y, y ∈ ns → y ≤ m) → P (.i m) μ) := ⟨fun ⟨x, ns, e, l, hn, p⟩ _ _ _ _ st a0 k => by
  subst e
  obtain ⟨u, rfl, a⟩ := a0.one
  obtain ⟨q, rfl, h⟩ := l.ints st a
  exact ⟨q, ns, rfl, h, hn, fun m h1 h2 => k _ _ _ _ _ (Same.refl _) st (.v _) (p m h1 h2)⟩⟩
instance : SoC K (rMin K) (dInts fun ns μ P => 0 < ns.length ∧ ∀ m, m ∈ ns → (∀ y, y ∈ ns → m ≤ y) → P (.i m) μ) := ⟨fun ⟨x, ns, e, l, hn, p⟩ _ _ _ _ st a0 k => by
  subst e
  obtain ⟨u, rfl, a⟩ := a0.one
  obtain ⟨q, rfl, h⟩ := l.ints st a
  exact ⟨q, ns, rfl, h, hn, fun m h1 h2 => k _ _ _ _ _ (Same.refl _) st (.v _) (p m h1 h2)⟩⟩
instance : SoC K (rSorted K) (dInts fun ns μ P => ns.length < 64 ∧ ∀ ns' : List Int, ns'.Perm ns → ns'.Pairwise (· ≤ ·) → NewL (ns'.map Da.i) μ P) := ⟨fun ⟨x, ns, e, l, hn, p⟩ _ _ _ _ st a0 k => by
  subst e
  obtain ⟨u, rfl, a⟩ := a0.one
  obtain ⟨q, rfl, h⟩ := l.ints st a
  exact ⟨q, ns, rfl, h, hn, fun ns' r h1 h2 hr => (p ns' h1 h2).run st (by rw [ints_vals]; exact AtAll.ofV _) k hr⟩⟩
theorem bools_vals {bs : List Bool} : bs.map Da.b = (bs.map V.bl).map Da.v := by rw [List.map_map]; rfl
def dBools (f : List Bool → Bool) : DRC := fun xs μ P => ∃ x bs, xs = [x] ∧ Lst μ x (bs.map Da.b) ∧ P (.b (f bs)) μ
instance : SoC K (rAll K) (dBools fun bs => bs.all id) := ⟨fun ⟨x, bs, e, l, p⟩ _ _ _ _ st a0 k => by
  subst e
  obtain ⟨u, rfl, a⟩ := a0.one
  obtain ⟨q, vs, e, h1, h2⟩ := l.at_ st a
  rw [bools_vals] at h2
  rw [h2.vals] at h1
  exact ⟨q, bs, by rw [e], h1, k _ _ _ _ _ (Same.refl _) st (.v _) p⟩⟩
instance : SoC K (rAny K) (dBools fun bs => bs.any id) := ⟨fun ⟨x, bs, e, l, p⟩ _ _ _ _ st a0 k => by
  subst e
  obtain ⟨u, rfl, a⟩ := a0.one
  obtain ⟨q, vs, e, h1, h2⟩ := l.at_ st a
  rw [bools_vals] at h2
  rw [h2.vals] at h1
  exact ⟨q, bs, by rw [e], h1, k _ _ _ _ _ (Same.refl _) st (.v _) p⟩⟩
/-- the type of what is told; isinstance -/
inductive TyD (K : PySem.W.Frag) (μ : Mu) : Da → Value → Prop where
  | bl (b : Bool) : TyD K μ (.b b) (.type "bool")
  | int (i : Int) : TyD K μ (.i i) (.type "int")
  | str (x : Str) : TyD K μ (.s x) (.type "str")
  | lst {x : Da} {ds : List Da} : Lst μ x ds → TyD K μ x (.type "list")
  | tup (ds : List Da) : TyD K μ (.tup ds) (.type "tuple")
  | ins {C : Addr} {x : Da} {ns : List Str} {ds : List Da} : Ins C μ x ns ds → Cls K C → PySem.W.findIn K (.ref C) "__class__" = some (some (.builtin "object.__class__")) →
      PySem.W.specialIn K (.builtin "object.__class__") "__get__" = some (some (.builtin "getset_descriptor.__get__")) → PySem.W.takesIn K (.builtin "object.__class__") = some true → PySem.W.mroIn K C (.type "object") = some true → TyD K μ x (.ref C)
theorem tyL {H : Hp} {a : Addr} {xs : List V} (h : SqL K H a xs) : TyX K H (.ref a) (.type "list") := by
  rcases h with (h | ⟨o, h⟩) | ⟨o, its, n, h, c, _⟩
  · exact .base (.lst h)
  · exact .base (.frz h)
  · exact .kList h c
theorem tyT {H : Hp} {a : Addr} {xs : List V} (h : SqT K H a xs) : TyX K H (.ref a) (.type "tuple") := by
  rcases h with (h | ⟨o, h⟩) | ⟨o, its, n, h, c, _⟩
  · exact .base (.tup h)
  · exact .fTuple h
  · exact .kTuple h c
theorem TyD.to {μ : Mu} {x : Da} {t : Value} {H I : Hp} {u : V} (h : TyD K μ x t) (st : StR K H I μ) (a : At K I u x) : TyX K H u t := by
  cases h with
  | bl b => rw [a.val]; exact .base (.bl b)
  | int i => rw [a.val]; exact .base (.int i)
  | str x => rw [a.val]; exact .base (.str x)
  | lst l => obtain ⟨p, vs, rfl, h1, _⟩ := l.at_ st a; exact tyL h1
  | tup ds => obtain ⟨p, vs, rfl, h1, _⟩ := a.tupd; exact tyT (same_T st.same h1)
  | ins hi c h1 h2 h3 h4 => obtain ⟨p, dx, fs, rfl, e, _⟩ := hi.at_ st a; exact .base (.ins e c h1 h2 h3 h4)
def dIsi (K : PySem.W.Frag) : DRC := fun xs μ P => ∃ x c t u b, xs = [x, .v c] ∧ ClsV c u ∧ TyD K μ x t ∧ PySem.W.kitOne K t u = some b ∧ P (.b b) μ
instance : SoC K (rIsi K) (dIsi K) := ⟨fun ⟨x, c, t, w, b, e, h1, h2, h3, p⟩ _ _ _ _ st a0 k => by
  subst e
  obtain ⟨u, v, rfl, a, a'⟩ := a0.two
  rw [a'.val]
  exact ⟨u, c, t, w, b, rfl, h1, h2.to st a, h3, k _ _ _ _ _ (Same.refl _) st (.v _) p⟩⟩
def dIsiT (K : PySem.W.Frag) : DRC := fun xs μ P => ∃ x cs t us b, xs = [x, .tup (cs.map Da.v)] ∧ Paired ClsV cs us ∧ TyD K μ x t ∧ PySem.W.kitAny K t us = some b ∧ P (.b b) μ
/-! methods of lists -/
def dBM (T : String) (dr : DRM) (da : DTE) (dA : DTA) : DTE := fun ρ μ P => da ρ μ fun x μ1 => (∃ ds, LstT μ1 x ds) ∧ dA ρ μ1 fun ys μ2 => dr x ys μ2 P
class SoMt (K : PySem.W.Frag) (r : V → List V → Hp → VK → Prop) (dr : outParam DRM) : Prop where
  run : ∀ {x : Da} {xs : List Da} {μ : Mu} {P : DP}, dr x xs μ P → ∀ {u : V} {us : List V} {I H : Hp} {Q : VK}, StR K H I μ → At K I u x → AtAll K I us xs → CoE K I P Q → r u us H Q
instance {r : V → List V → Hp → VK → Prop} {ta : TE} {tA : TA} {dr da dA} [A : SoE K ta da] [B : SoA K tA dA] [M : SoMt K r dr] : SoE K (tBM K "list" r ta tA) (dBM "list" dr da dA) := ⟨fun h _ _ _ _ he st k => A.run h he st fun u x I1 H1 μ1 s1 st1 a1 ⟨⟨ds, l⟩, p⟩ => by
  obtain ⟨q, vs, rfl, h1, h2⟩ := l.at_ st1 a1
  exact ⟨.inl ⟨rfl, _, SqL.of h1⟩, B.run p (he.to s1) st1 fun ws ys I2 H2 μ2 s2 st2 a2 p2 => M.run p2 st2 (a1.to s2) a2 (CoE.to (s1.trans s2) k)⟩⟩
def dAppend : DRM := fun x ys μ P => ∃ a ds y, x = .r a ∧ ys = [y] ∧ μ a = some (.ml ds) ∧ ds.length < sizeLine ∧ P .n (setM μ a (.ml (ds ++ [y])))
instance : SoMt K rAppend dAppend := ⟨fun ⟨a, ds, y, e1, e2, h, hz, p⟩ _ _ _ _ _ st u us k => by
  subst e1 e2
  obtain ⟨w, rfl, b⟩ := us.one
  obtain ⟨_, vs, h1, h2⟩ := st.cell a _ h
  exact ⟨a, vs, w, u.val, rfl, h1, by rw [h2.length]; exact hz, k _ _ _ _ _ (Same.refl _) (st.put h (c := .ml (ds ++ [y])) ⟨_, rfl, h2.app (.cons b .nil)⟩) (.v _) p⟩⟩
/-! slices -/
def dNoPart : DTO := fun _ μ P => P none μ
instance : SoO K tNoPart dNoPart := ⟨fun h _ _ _ _ _ st k => k _ _ _ _ (Same.refl _) st h⟩
def dPart (da : DTE) : DTO := fun ρ μ P => da ρ μ fun x μ1 => ∃ i, x = .i i ∧ P (some i) μ1
instance {ta : TE} {da} [A : SoE K ta da] : SoO K (tPart ta) (dPart da) := ⟨fun h _ _ _ _ he st k => A.run h he st fun u x I1 H1 μ1 s1 st1 a1 ⟨i, e, p⟩ => by
  subst e
  exact ⟨i, a1.val, k _ _ _ _ s1 st1 p⟩⟩
def cutD (ds : List Da) (lo hi : Option Int) : List Da := (ds.drop (HT.sIx ds.length 0 lo)).take (HT.sIx ds.length ds.length hi - HT.sIx ds.length 0 lo)
theorem AtAll.cut {I : Hp} {vs : List V} {ds : List Da} (h : AtAll K I vs ds) (lo hi : Option Int) : AtAll K I (cutV vs lo hi) (cutD ds lo hi) := by
  unfold cutV cutD
  rw [h.length]
  exact (h.drop _).take _
def dSl (da : DTE) (dl dh : DTO) : DTE := fun ρ μ P => da ρ μ fun x μ1 => dl ρ μ1 fun l μ2 => dh ρ μ2 fun u μ3 => ∃ ds, Lst μ3 x ds ∧ NewL (cutD ds l u) μ3 P
instance {ta : TE} {tl th : TO} {da dl dh} [A : SoE K ta da] [B : SoO K tl dl] [C : SoO K th dh] : SoE K (tSl (rSlL K) ta tl th) (dSl da dl dh) := ⟨fun h _ _ _ _ he st k => A.run h he st fun u x I1 H1 μ1 s1 st1 a1 h1 => B.run h1 (he.to s1) st1 fun l I2 H2 μ2 s2 st2 h2 => C.run h2 ((he.to s1).to s2) st2 fun o I3 H3 μ3 s3 st3 ⟨ds, l', p⟩ => by
  obtain ⟨q, vs, rfl, h3, h4⟩ := l'.at_ st3 ((a1.to s2).to s3)
  exact ⟨q, vs, rfl, h3, fun r hr => p.run st3 (h4.cut _ _) (CoE.to ((s1.trans s2).trans s3) k) hr⟩⟩
/-! own calls -/
instance {X : Cx} {C : Addr} {dsp : DSp} {E : XK} {ta : TE} {tr : TA} {da dr} [A : SoE K ta da] [R : SoA K tr dr] : SoE K (StX.tCallO X C (spD K dsp) E ta tr) (dCallO C dsp da dr) := ⟨fun h _ _ _ _ he st k => A.run h he st fun u x I1 H1 μ1 s1 st1 a1 ⟨ns, ds, hi, h1⟩ => by
  obtain ⟨q, dx, fs, rfl, h1', h2, h3⟩ := hi.at_ st1 a1
  exact ⟨q, rfl, R.run h1 (he.to s1) st1 fun us xs I2 H2 μ2 s2 st2 a2 ⟨⟨ns', ds', hi'⟩, p⟩ => by
    obtain ⟨q', dx', fs', e', h1'', _⟩ := hi'.at_ st2 (a1.to s2)
    cases e'
    exact ⟨.inr ⟨dx', fs', h1''⟩, I2, μ2, x :: xs, _, st2, .cons (a1.to s2) a2, p, CoE.to (s1.trans s2) k⟩⟩⟩
def dOwn2 (C : Addr) (dsp : DSp) : DR2 := fun x y μ P => ∃ ns ds ns' ds', Ins C μ x ns ds ∧ Ins C μ y ns' ds' ∧ dsp [x, y] μ P
instance {C : Addr} {dsp : DSp} : SoR K (rOwn2 C (spD K dsp)) (dOwn2 C dsp) := ⟨fun ⟨ns, ds, ns', ds', i1, i2, p⟩ _ _ _ _ _ st a b k => by
  obtain ⟨q, dx, fs, rfl, h1, _⟩ := i1.at_ st a
  obtain ⟨q', dx', fs', rfl, h1', _⟩ := i2.at_ st b
  exact ⟨q, q', dx, dx', fs, fs', rfl, rfl, h1, h1', _, _, _, _, st, .cons a (.cons b .nil), p, k⟩⟩
def dOwnI (C : Addr) (dsp : DSp) : DR2 := fun x y μ P => ∃ ns ds i, Ins C μ x ns ds ∧ y = .i i ∧ dsp [x, y] μ P
instance {C : Addr} {dsp : DSp} : SoR K (rOwnI C (spD K dsp)) (dOwnI C dsp) := ⟨fun ⟨ns, ds, i, i1, e, p⟩ _ _ _ _ _ st a b k => by
  subst e
  obtain ⟨q, dx, fs, rfl, h1, _⟩ := i1.at_ st a
  rw [b.val]
  exact ⟨q, i, dx, fs, rfl, rfl, h1, _, _, _, _, st, .cons a (.cons (.v _) .nil), p, k⟩⟩
def dOwnN (C : Addr) (dsp : DSp) : DR1 := fun x μ P => ∃ ns ds, Ins C μ x ns ds ∧ dsp [x] μ P
instance {C : Addr} {dsp : DSp} : SoU K (rOwnN C (spD K dsp)) (dOwnN C dsp) := ⟨fun ⟨ns, ds, i1, p⟩ _ _ _ _ st a k => by
  obtain ⟨q, dx, fs, rfl, h1, _⟩ := i1.at_ st a
  exact ⟨q, dx, fs, rfl, h1, _, _, _, _, st, .cons a .nil, p, k⟩⟩
/-! == of data -/
mutual
def Da.py : Da → Option PyData
  | .v .non => some .none
  | .v (.bl b) => some (.bool b)
  | .v (.int i) => some (.int i)
  | .v (.str x) => some (.str x)
  | .v _ => none
  | .lst ds => (pyAll ds).map .list
  | .tup ds => (pyAll ds).map .tuple
  | .rd ds => (pyAll ds).map .list
  | .obj _ _ _ => none
def pyAll : List Da → Option (List PyData)
  | [] => some []
  | d :: ds => match d.py, pyAll ds with
    | some x, some xs => some (x :: xs)
    | _, _ => none
end
mutual
theorem At.dp {I H : Hp} (s : Same I H) : ∀ {d : Da} {v : V} {e : PyData}, At K I v d → d.py = some e → Dp K H v e
  | .v x, _, e, h, q => by
    rw [h.val]
    clear h
    cases x <;> first | (cases q; exact .non) | (cases q; exact .bl _) | (cases q; exact .int _) | (cases q; exact .str _) | cases q
  | .lst ds, _, e, h, q => by
    cases h with | lst h1 h2 =>
    have q' : (pyAll ds).map PyData.list = some e := q
    cases z : pyAll ds with
    | none => rw [z] at q'; cases q'
    | some es => rw [z] at q'; cases q'; exact .lst (SqL.of (s _ _ h1)) (AtAll.dp s h2 z)
  | .rd ds, _, e, h, q => by
    cases h with | rd h1 h2 =>
    have q' : (pyAll ds).map PyData.list = some e := q
    cases z : pyAll ds with
    | none => rw [z] at q'; cases q'
    | some es => rw [z] at q'; cases q'; exact .lst (s.seq h1) (AtAll.dp s h2 z)
  | .tup ds, _, e, h, q => by
    cases h with | tup h1 h2 =>
    have q' : (pyAll ds).map PyData.tuple = some e := q
    cases z : pyAll ds with
    | none => rw [z] at q'; cases q'
    | some es => rw [z] at q'; cases q'; exact .tup (same_T s h1) (AtAll.dp s h2 z)
  | .obj _ _ _, _, _, _, q => by cases q
theorem AtAll.dp {I H : Hp} (s : Same I H) : ∀ {ds : List Da} {vs : List V} {es : List PyData}, AtAll K I vs ds → pyAll ds = some es → DpAll K H vs es
  | [], _, _, h, q => by cases h; cases q; exact .nil
  | d :: ds, _, es, h, q => by
    cases h with | cons h1 h2 =>
    unfold pyAll at q
    cases z : d.py with
    | none => rw [z] at q; cases q
    | some x =>
      cases z2 : pyAll ds with
      | none => rw [z, z2] at q; cases q
      | some xs => rw [z, z2] at q; cases q; exact .cons (At.dp s h1 z) (AtAll.dp s h2 z2)
end
def dEqD (g : Bool → Bool) : DR2 := fun x y μ P => ∃ d e, x.py = some d ∧ y.py = some e ∧ SeqAt.shaped d = true ∧ SeqAt.shaped e = true ∧ P (.b (g (PyData.eqv d e))) μ
instance : SoR K (rEqD K) (dEqD id) := ⟨fun ⟨d, e, h1, h2, h3, h4, p⟩ _ _ _ _ _ st a b k => ⟨d, e, a.dp st.same h1, b.dp st.same h2, h3, h4, k _ _ _ _ _ (Same.refl _) st (.v _) p⟩⟩
instance : SoR K (rNeD K) (dEqD (!·)) := ⟨fun ⟨d, e, h1, h2, h3, h4, p⟩ _ _ _ _ _ st a b k => ⟨d, e, a.dp st.same h1, b.dp st.same h2, h3, h4, k _ _ _ _ _ (Same.refl _) st (.v _) p⟩⟩
/-! targets -/
def dName (i : Nat) : DTG := fun d ρ μ P => P (ρ.set i (some d)) μ
instance {i : Nat} : SoG K (gName i) (dName i) := ⟨fun h _ _ _ _ he st a k => k _ _ _ _ _ (Same.refl _) (he.set i a) st h⟩
theorem wipe_in {σ : L2.St} {i : Nat} : ∀ {vs : List Nat}, i ∈ vs → i < σ.length → (wipe σ vs)[i]? = some none
  | [], h, _ => by cases h
  | v :: vs, h, hl => by
    unfold wipe
    by_cases e : v = i
    · subst e
      exact List.getElem?_set_self (by rw [wipe_length]; exact hl)
    · rw [List.getElem?_set_ne e]
      exact wipe_in (by rcases List.mem_cons.mp h with z | z; exact absurd z.symm e; exact z) hl
theorem wipe_set {σ : L2.St} {i : Nat} {x : Option V} {vs : List Nat} (h : i ∈ vs) : wipe (σ.set i x) vs = wipe σ vs := by
  apply List.ext_getElem?
  intro j
  by_cases hj : j ∈ vs
  · by_cases hl : j < σ.length
    · rw [wipe_in hj (by rw [List.length_set]; exact hl), wipe_in hj hl]
    · rw [List.getElem?_eq_none (by rw [wipe_length, List.length_set]; omega), List.getElem?_eq_none (by rw [wipe_length]; omega)]
  · rw [wipe_out hj, wipe_out hj, List.getElem?_set_ne (fun z => hj (by rw [← z]; exact h))]
theorem wipe_wipe {σ : L2.St} {vs : List Nat} : wipe (wipe σ vs) vs = wipe σ vs := by
  apply List.ext_getElem?
  intro j
  by_cases hj : j ∈ vs
  · by_cases hl : j < σ.length
    · rw [wipe_in hj (by rw [wipe_length]; exact hl), wipe_in hj hl]
    · rw [List.getElem?_eq_none (by rw [wipe_length, wipe_length]; omega), List.getElem?_eq_none (by rw [wipe_length]; omega)]
  · rw [wipe_out hj]
instance {i : Nat} : SoGW (gName i) [i] := ⟨fun k h => k _ _ h, fun hv e h => ⟨by rw [wipe_set (hv i List.mem_cons_self)]; exact e, h⟩⟩
def dgNil : DTGs := fun ds ρ μ P => ds = [] ∧ P ρ μ
instance : SoGs K gNil dgNil := ⟨fun ⟨e, h⟩ _ _ _ _ he st a k => by
  subst e
  cases a
  exact ⟨rfl, k _ _ _ _ _ (Same.refl _) he st h⟩⟩
instance : SoGsW gNil [] := ⟨fun k ⟨h1, h2⟩ => ⟨h1, k _ _ h2⟩, fun _ e ⟨h1, h2⟩ => ⟨h1, e, h2⟩⟩
def dgCons (t : DTG) (u : DTGs) : DTGs := fun ds ρ μ P => ∃ d r, ds = d :: r ∧ t d ρ μ fun ρ' μ' => u r ρ' μ' P
instance {g : TG} {gs : TGs} {dg dgs} [A : SoG K g dg] [B : SoGs K gs dgs] : SoGs K (gCons g gs) (dgCons dg dgs) := ⟨fun ⟨d, r, e, h⟩ _ _ _ _ he st a k => by
  subst e
  cases a with | cons a1 a2 => exact ⟨_, _, rfl, A.run h he st a1 fun σ' ρ' I' H' μ' s' he' st' h' => B.run h' he' st' (a2.to s') (CoS.to s' k)⟩⟩
instance {g : TG} {gs : TGs} {sl sl'} [A : SoGW g sl] [B : SoGsW gs sl'] : SoGsW (gCons g gs) (sl ++ sl') := ⟨fun k ⟨v, r, e1, h⟩ => ⟨v, r, e1, A.mono (fun _ _ q => B.mono k q) h⟩, fun hv e ⟨v, r, e1, h⟩ =>
  ⟨v, r, e1, A.mono (fun _ _ ⟨e2, q⟩ => B.only (fun i hi => hv i (List.mem_append_right _ hi)) e2 q) (A.only (fun i hi => hv i (List.mem_append_left _ hi)) e h)⟩⟩
def dgTup (n : Nat) (t : DTGs) : DTG := fun d ρ μ P => ∃ ds, d = .tup ds ∧ ds.length = n ∧ t ds ρ μ P
instance {n : Nat} {gs : TGs} {dgs} [B : SoGs K gs dgs] : SoG K (gTup K n gs) (dgTup n dgs) := ⟨fun ⟨ds, e, hn, h⟩ _ _ _ _ he st a k => by
  subst e
  obtain ⟨q, vs, rfl, h1, h2⟩ := a.tupd
  exact ⟨q, vs, rfl, same_T st.same h1, by rw [h2.length]; exact hn, B.run h he st h2 k⟩⟩
instance {n : Nat} {gs : TGs} {sl} [B : SoGsW gs sl] : SoGW (gTup K n gs) sl := ⟨fun k ⟨a, xs, e, h1, h2, h⟩ => ⟨a, xs, e, h1, h2, B.mono k h⟩, fun hv e0 ⟨a, xs, e, h1, h2, h⟩ => ⟨a, xs, e, h1, h2, B.only hv e0 h⟩⟩
def dSub (da db : DTE) (ds : DSet) : DTG := fun d ρ μ P => da ρ μ fun o μ1 => db ρ μ1 fun i μ2 => ds o i d μ2 fun μ3 => P ρ μ3
instance {to ti : TE} {t : TSet} {da db ds} [A : SoE K to da] [B : SoE K ti db] [S : SoSet K t ds] : SoG K (gSub to ti t) (dSub da db ds) := ⟨fun h _ _ _ _ he st a k => A.run h he st fun u x I1 H1 μ1 s1 st1 a1 h1 => B.run h1 (he.to s1) st1 fun v y I2 H2 μ2 s2 st2 a2 h2 =>
  S.run h2 st2 (a1.to s2) a2 (a.to (s1.trans s2)) fun I3 H3 μ3 s3 st3 h3 => k _ _ _ _ _ ((s1.trans s2).trans s3) (((he.to s1).to s2).to s3) st3 h3⟩
def dSetL : DSet := fun o i d μ P => ∃ a ds k j, o = .r a ∧ i = .i k ∧ μ a = some (.ml ds) ∧ ixN ds.length k = some j ∧ P (setM μ a (.ml (ds.set j d)))
instance : SoSet K rSetL dSetL := ⟨fun {_ _ d _ _} ⟨a, ds, k, j, e1, e2, h, hj, p⟩ _ _ _ _ _ _ st u v w q => by
  subst e1 e2
  obtain ⟨_, vs, h1, h2⟩ := st.cell a _ h
  exact ⟨a, vs, k, j, u.val, v.val, h1, by rw [h2.length]; exact hj, q _ _ _ (Same.refl _) (st.put h (c := .ml (ds.set j d)) ⟨_, rfl, h2.set w j⟩) p⟩⟩
end
end LL

namespace LL
open PySem L2 PySem.Spec PyProof.Rows
section
variable {K : PySem.W.Frag}
instance {r r' : R2} {ta tb tc : TE} {dr dr' da db dc} [A : SoE K ta da] [B : SoE K tb db] [C : SoE K tc dc] [R : SoR K r dr] [R' : SoR K r' dr'] : SoE K (tChain r r' ta tb tc) (dChain dr dr' da db dc) :=
  ⟨fun h _ _ _ _ he st k => A.run h he st fun u x I1 H1 μ1 s1 st1 a1 h1 => B.run h1 (he.to s1) st1 fun v y I2 H2 μ2 s2 st2 a2 h2 => R.run h2 st2 (a1.to s2) a2 fun w z I3 H3 μ3 s3 st3 a3 ⟨b, e, p⟩ => by
    subst e
    refine ⟨b, a3.val, ?_⟩
    cases b with
    | true => exact C.run (show dc _ _ _ from p) (((he.to s1).to s2).to s3) st3 fun w' z' I4 H4 μ4 s4 st4 a4 p4 => R'.run p4 st4 ((a2.to s3).to s4) a4 (CoE.to (((s1.trans s2).trans s3).trans s4) k)
    | false => exact k _ _ _ _ _ ((s1.trans s2).trans s3) st3 (.v _) p⟩
/-! ### statements -/
/-- cells that become data: in slots, within other cells -/
inductive Fz (N : Rho → Mu → Prop) : Rho → Mu → Prop where
  | no {ρ : Rho} {μ : Mu} : N ρ μ → Fz N ρ μ
  | frz {ρ : Rho} {μ : Mu} (j : Nat) (a : Addr) (ds : List Da) : μ a = some (.ml ds) → ρ[j]? = some (some (.r a)) → Fz N (ρ.set j (some (.lst ds))) (remM μ a) → Fz N ρ μ
  | sub {ρ : Rho} {μ : Mu} (a b : Addr) (ds es : List Da) (i : Nat) : μ a = some (.ml ds) → ds[i]? = some (.r b) → μ b = some (.ml es) → b ≠ a → Fz N ρ (remM (setM μ a (.ml (ds.set i (.lst es)))) b) → Fz N ρ μ
/-- what stands within a cell is told otherwise -/
theorem StR.tell {H I : Hp} {μ : Mu} {a b : Addr} {ds es : List Da} {i : Nat} (st : StR K H I μ) (ha : μ a = some (.ml ds)) (hi : ds[i]? = some (.r b)) (hb : μ b = some (.ml es)) (ne : b ≠ a) : ∃ I', Same I I' ∧ StR K H I' (remM (setM μ a (.ml (ds.set i (.lst es)))) b) := by
  obtain ⟨I', s, st', at'⟩ := st.frz hb
  refine ⟨I', s, st'.same, fun c d e => ?_⟩
  by_cases h1 : c = b
  · rw [h1, remM_at] at e; cases e
  · rw [remM_ne h1] at e
    by_cases h2 : c = a
    · subst h2
      rw [setM_at] at e
      cases e
      obtain ⟨q1, vs, q2, q3⟩ := st'.cell c (.ml ds) (by rw [remM_ne h1]; exact ha)
      refine ⟨q1, vs, q2, ?_⟩
      obtain ⟨x, x1, x2⟩ := q3.get' hi
      have e2 : vs.set i (.ref b) = vs := by
        apply List.ext_getElem?
        intro j
        by_cases z : i = j
        · subst z
          have hl : i < vs.length := (List.getElem?_eq_some_iff.mp x1).1
          rw [List.getElem?_set_self hl, x1, x2.val]
        · rw [List.getElem?_set_ne z]
      have q4 := q3.set at' i
      rw [e2] at q4
      exact q4
    · rw [setM_ne h2] at e
      exact st'.cell c d (by rw [remM_ne h1]; exact e)
theorem Fz.run {N : Rho → Mu → Prop} {ρ : Rho} {μ : Mu} (h : Fz N ρ μ) : ∀ {σ : L2.St} {I H : Hp} {Q : L2.St → Hp → Prop}, EnvR K I σ ρ → StR K H I μ → CoS K I N Q → Q σ H := by
  induction h with
  | no n => exact fun he st k => k _ _ _ _ _ (Same.refl _) he st n
  | @frz ρ μ j a ds h1 h2 _ ih =>
    intro σ I H Q he st k
    obtain ⟨I', s, st', a'⟩ := st.frz h1
    obtain ⟨v, q1, q2⟩ := he.2 _ _ h2
    rw [q2.val] at q1
    have e : σ.set j (some (.ref a)) = σ := by
      apply List.ext_getElem?
      intro i
      by_cases z : j = i
      · subst z
        have hl : j < σ.length := (List.getElem?_eq_some_iff.mp q1).1
        rw [List.getElem?_set_self hl, q1]
      · rw [List.getElem?_set_ne z]
    have he' := (he.to s).set j a'
    rw [e] at he'
    exact ih he' st' (CoS.to s k)
  | sub a b ds es i h1 h2 h3 h4 _ ih =>
    intro σ I H Q he st k
    obtain ⟨I', s, st'⟩ := st.tell h1 h2 h3 h4
    exact ih (he.to s) st' (CoS.to s k)
/-- a value that may become data -/
def FzV (P : DP) (d : Da) (μ : Mu) : Prop := P d μ ∨ ∃ a ds, d = .r a ∧ μ a = some (.ml ds) ∧ P (.lst ds) (remM μ a)
theorem FzV.run {P : DP} {d : Da} {v : V} {μ : Mu} {I H : Hp} {Q : VK} (h : FzV P d μ) (st : StR K H I μ) (a : At K I v d) (k : CoE K I P Q) : Q v H := by
  rcases h with h | ⟨p, ds, rfl, e, h⟩
  · exact k _ _ _ _ _ (Same.refl _) st a h
  · obtain ⟨I', s, st', a'⟩ := st.frz e
    rw [a.val]
    exact k _ _ _ _ _ s st' a' h
def dNext : DTS := fun E ρ μ => E.nx ρ μ
instance : SoS K tNext dNext := ⟨fun h _ _ _ _ he st k => k.nx _ _ _ _ _ (Same.refl _) he st h⟩
def dSeq (a b : DTS) : DTS := fun E ρ μ => a { E with nx := b E } ρ μ
instance {t u : TS} {a b} [A : SoS K t a] [B : SoS K u b] : SoS K (tSeq t u) (dSeq a b) := ⟨fun {ρ μ E} h σ I H D he st k => A.run h he st ⟨fun σ' ρ' I' H' μ' s he' st' q => B.run q he' st' (k.to s), k.rt, k.bk, k.ct⟩⟩
def dBreak : DTS := fun E ρ μ => E.bk ρ μ
instance : SoS K tBreak dBreak := ⟨fun h _ _ _ _ he st k => k.bk _ _ _ _ _ (Same.refl _) he st h⟩
def dCont : DTS := fun E ρ μ => E.ct ρ μ
instance : SoS K tCont dCont := ⟨fun h _ _ _ _ he st k => k.ct _ _ _ _ _ (Same.refl _) he st h⟩
def dNever : DTS := fun _ _ _ => False
instance : SoS K tNever dNever := ⟨fun h => False.elim h⟩
def dDrop (da : DTE) : DTS := fun E ρ μ => da ρ μ fun _ μ1 => E.nx ρ μ1
instance {te : TE} {da} [A : SoE K te da] : SoS K (tDrop te) (dDrop da) := ⟨fun h _ _ _ _ he st k => A.run h he st fun v d I1 H1 μ1 s1 st1 _ q => k.nx _ _ _ _ _ s1 (he.to s1) st1 q⟩
def dRet (da : DTE) : DTS := fun E ρ μ => da ρ μ fun d μ1 => FzV E.rt d μ1
instance {te : TE} {da} [A : SoE K te da] : SoS K (tRet te) (dRet da) := ⟨fun h _ _ _ _ he st k => A.run h he st fun v d I1 H1 μ1 s1 st1 a q => q.run st1 a (CoE.to s1 k.rt)⟩
def dRetN : DTS := fun E _ μ => E.rt .n μ
instance : SoS K tRetN dRetN := ⟨fun h _ _ _ _ he st k => k.rt _ _ _ _ _ (Same.refl _) st (.v _) h⟩
def dIfS (dt : DTT) (a b : DTS) : DTS := fun E ρ μ => dt ρ μ fun c μ1 => if c = true then a E ρ μ1 else b E ρ μ1
instance {t : TT} {u w : TS} {dt a b} [T : SoT K t dt] [A : SoS K u a] [B : SoS K w b] : SoS K (tIfS t u w) (dIfS dt a b) := ⟨fun {ρ μ E} h _ _ _ _ he st k => T.run h he st fun c I1 H1 μ1 s1 st1 q => by
  cases c with
  | true => exact A.run (show a E ρ μ1 from q) (he.to s1) st1 (k.to s1)
  | false => exact B.run (show b E ρ μ1 from q) (he.to s1) st1 (k.to s1)⟩
def dAsg (da : DTE) (g : DTG) : DTS := fun E ρ μ => da ρ μ fun d μ1 => g d ρ μ1 E.nx
instance {te : TE} {tg : TG} {da g} [A : SoE K te da] [G : SoG K tg g] : SoS K (tAsg te tg) (dAsg da g) := ⟨fun h _ _ _ _ he st k => A.run h he st fun v d I1 H1 μ1 s1 st1 a q => G.run q (he.to s1) st1 a (CoS.to s1 k.nx)⟩
def dPar (i j : Nat) (da : DTA) : DTS := fun E ρ μ => da ρ μ fun ds μ1 => ∃ d e, ds = [d, e] ∧ E.nx ((ρ.set i (some d)).set j (some e)) μ1
instance {i j : Nat} {ta : TA} {da} [A : SoA K ta da] : SoS K (tPar i j ta) (dPar i j da) := ⟨fun h _ _ _ _ he st k => A.run h he st fun vs ds I1 H1 μ1 s1 st1 a ⟨d, e, q, p⟩ => by
  subst q
  obtain ⟨u, v, rfl, a1, a2⟩ := a.two
  exact ⟨u, v, rfl, k.nx _ _ _ _ _ s1 (((he.to s1).set i a1).set j a2) st1 p⟩⟩
/-- self.f = e -/
def dSetF (K : PySem.W.Frag) (da dv : DTE) (f : Str) : DTS := fun E ρ μ => dv ρ μ fun y μ1 => da ρ μ1 fun x μ2 => ∃ C a ns ds, x = .r a ∧ μ2 a = some (.mi C ns ds) ∧ Cls K C ∧ NoAttr K C f ∧ ns.length < 1000 ∧ f ∉ ns ∧ E.nx ρ (setM μ2 a (.mi C (ns ++ [f]) (ds ++ [y])))
theorem putF_new {f : Str} {v : V} : ∀ {fs : List (Str × V)}, f ∉ fs.map (·.1) → putF f v fs = fs ++ [(f, v)]
  | [], _ => rfl
  | (n, w) :: fs, h => by
    have h1 : n ≠ f := fun z => h (by rw [← z]; exact List.mem_cons_self)
    show (if n = f then _ else (n, w) :: putF f v fs) = _
    rw [if_neg h1, putF_new fun z => h (List.mem_cons_of_mem _ z)]
    rfl
instance {ta tv : TE} {f : Str} {da dv} [A : SoE K ta da] [B : SoE K tv dv] : SoS K (sFld K ta tv f) (dSetF K da dv f) := ⟨fun h _ _ _ _ he st k => B.run h he st fun v y I1 H1 μ1 s1 st1 a1 h1 => A.run h1 (he.to s1) st1 fun u x I2 H2 μ2 s2 st2 a2 ⟨C, a, ns, ds, e, hm, c, n, hl, hf, q⟩ => by
  subst e
  obtain ⟨_, dx, fs, q1, q2, q3⟩ := st2.cell a _ hm
  subst q2
  refine ⟨a, C, dx, fs, a2.val, q1, c, n, by rw [List.length_map] at hl; exact hl, ?_⟩
  rw [putF_new hf]
  exact k.nx _ _ _ _ _ (s1.trans s2) ((he.to s1).to s2) (st2.put hm (c := .mi C (fs.map (·.1) ++ [f]) (ds ++ [y])) ⟨dx, _, rfl, by rw [List.map_append]; rfl, by rw [List.map_append]; exact q3.app (.cons (a1.to s2) .nil)⟩) q⟩
/-! ### walks -/
/-- J walks the items, while G holds of the cells -/
structure WalkD (K : PySem.W.Frag) (I : Hp) (J : It) (items : List Da) (G : Mu → Prop) : Prop where
  goes : ∀ I1 H μ, Same I I1 → StR K H I1 μ → G μ → ∀ i, i < items.length → J.go i H
  stops : ∀ I1 H μ, Same I I1 → StR K H I1 μ → G μ → J.stop items.length H
  yields : ∀ I1 H μ, Same I I1 → StR K H I1 μ → G μ → ∀ i x H' d, items[i]? = some d → J.yld i H x H' → ∃ I2, Same I1 I2 ∧ StR K H' I2 μ ∧ At K I2 x d
abbrev DTI := Rho → Mu → (List Da → (Mu → Prop) → Mu → Prop) → Prop
class SoI (K : PySem.W.Frag) (wi : TI) (di : outParam DTI) : Prop where
  run : ∀ {ρ : Rho} {μ : Mu} {P : List Da → (Mu → Prop) → Mu → Prop}, di ρ μ P → ∀ {σ : L2.St} {I H : Hp} {R : It → Hp → Prop}, EnvR K I σ ρ → StR K H I μ →
    (∀ J items G I' H' μ', Same I I' → StR K H' I' μ' → WalkD K I' J items G → P items G μ' → R J H') → wi σ H R
theorem WalkD.to {I I' : Hp} {J : It} {items : List Da} {G : Mu → Prop} (s : Same I I') (w : WalkD K I J items G) : WalkD K I' J items G :=
  ⟨fun I1 H μ s1 => w.goes I1 H μ (s.trans s1), fun I1 H μ s1 => w.stops I1 H μ (s.trans s1), fun I1 H μ s1 => w.yields I1 H μ (s.trans s1)⟩
/-- over what is read: data, or a cell that stays as it is and holds values alone -/
def Wlk (x : Da) (ds : List Da) (G : Mu → Prop) : Prop := ((x = .lst ds ∨ x = .rd ds) ∧ G = fun _ => True) ∨ ∃ (a : Addr) (us : List V), x = .r a ∧ ds = us.map Da.v ∧ G = fun μ => μ a = some (.ml ds)
theorem Wlk.l {ds : List Da} : Wlk (.lst ds) ds (fun _ => True) := .inl ⟨.inl rfl, rfl⟩
theorem Wlk.at_ {x : Da} {ds : List Da} {G : Mu → Prop} {u : V} {I : Hp} (h : Wlk x ds G) (a : At K I u x) : ∃ p, u = .ref p ∧ ((∃ vs, AtAll K I vs ds ∧ ∀ I1 H μ, Same I I1 → StR K H I1 μ → G μ → SqL K H p vs)) := by
  rcases h with ⟨rfl | rfl, rfl⟩ | ⟨b, us, rfl, rfl, rfl⟩
  · cases a with | lst h1 h2 => exact ⟨_, rfl, _, h2, fun I1 H μ s st _ => SqL.of (st.same _ _ (s _ _ h1))⟩
  · cases a with | rd h1 h2 => exact ⟨_, rfl, _, h2, fun I1 H μ s st _ => st.same.seq (s.seq h1)⟩
  · refine ⟨b, a.val, us, AtAll.ofV us, fun I1 H μ s st g => ?_⟩
    obtain ⟨_, vs, h1, h2⟩ := st.cell b _ g
    rw [h2.vals] at h1
    exact SqL.of h1
theorem walkL {I : Hp} {p : Addr} {vs : List V} {ds : List Da} {G : Mu → Prop} (a : AtAll K I vs ds) (h : ∀ I1 H μ, Same I I1 → StR K H I1 μ → G μ → SqL K H p vs) : WalkD K I (Itl K p) ds G := by
  have w : Walk (Itl K p) vs.length (fun H => SqL K H p vs) (YAt vs) := walk_list
  rw [a.length] at w
  refine ⟨fun I1 H μ s st g i hi => w.goes i H hi (h _ _ _ s st g), fun I1 H μ s st g => w.stops H (h _ _ _ s st g), fun I1 H μ s st g i x H' d hd y => ?_⟩
  obtain ⟨rfl, e⟩ := w.yields i H x H' (List.getElem?_eq_some_iff.mp hd).1 (h _ _ _ s st g) y
  obtain ⟨d', e2, a2⟩ := a.get e
  rw [hd] at e2
  cases e2
  exact ⟨I1, Same.refl _, st, a2.to s⟩
def dIList (da : DTE) : DTI := fun ρ μ P => da ρ μ fun x μ1 => ∃ ds G, Wlk x ds G ∧ G μ1 ∧ P ds G μ1
instance {tl : TE} {da} [A : SoE K tl da] : SoI K (iList K tl) (dIList da) := ⟨fun h _ _ _ _ he st k => A.run h he st fun u x I1 H1 μ1 s1 st1 a1 ⟨ds, G, hw, g, p⟩ => by
  obtain ⟨q, rfl, vs, h1, h2⟩ := hw.at_ a1
  exact ⟨q, rfl, ⟨vs, h2 _ _ _ (Same.refl _) st1 g⟩, k _ ds G I1 H1 μ1 s1 st1 (walkL h1 h2) p⟩⟩
def dITup (da : DTE) : DTI := fun ρ μ P => da ρ μ fun x μ1 => ∃ ds, x = .tup ds ∧ P ds (fun _ => True) μ1
theorem walkT {I : Hp} {p : Addr} {vs : List V} {ds : List Da} {G : Mu → Prop} (a : AtAll K I vs ds) (h : SqT K I p vs) : WalkD K I (Itt K p) ds G := by
  have w : Walk (Itt K p) vs.length (fun H => SqT K H p vs) (YAt vs) := walk_tup
  rw [a.length] at w
  have h' : ∀ I1 H μ, Same I I1 → StR K H I1 μ → SqT K H p vs := fun I1 H μ s st => same_T st.same (same_T s h)
  refine ⟨fun I1 H μ s st g i hi => w.goes i H hi (h' _ _ _ s st), fun I1 H μ s st g => w.stops H (h' _ _ _ s st), fun I1 H μ s st g i x H' d hd y => ?_⟩
  obtain ⟨rfl, e⟩ := w.yields i H x H' (List.getElem?_eq_some_iff.mp hd).1 (h' _ _ _ s st) y
  obtain ⟨d', e2, a2⟩ := a.get e
  rw [hd] at e2
  cases e2
  exact ⟨I1, Same.refl _, st, a2.to s⟩
instance {tl : TE} {da} [A : SoE K tl da] : SoI K (iTup K tl) (dITup da) := ⟨fun h _ _ _ _ he st k => A.run h he st fun u x I1 H1 μ1 s1 st1 a1 ⟨ds, e, p⟩ => by
  subst e
  obtain ⟨q, vs, rfl, h1, h2⟩ := a1.tupd
  exact ⟨q, rfl, ⟨vs, same_T st1.same h1⟩, k _ ds _ I1 H1 μ1 s1 st1 (walkT h2 h1) p⟩⟩
def rgD (lo : Int) (n : Nat) : List Da := (List.range n).map fun i => Da.i (lo + (i : Nat))
theorem rgD_length {lo : Int} {n : Nat} : (rgD lo n).length = n := by unfold rgD; rw [List.length_map, List.length_range]
theorem rgD_get {lo : Int} {n i : Nat} {d : Da} (h : (rgD lo n)[i]? = some d) : d = .i (lo + (i : Nat)) := by
  have hi : i < n := by
    have := (List.getElem?_eq_some_iff.mp h).1
    rw [rgD_length] at this
    exact this
  unfold rgD at h
  rw [List.getElem?_map, List.getElem?_range hi] at h
  exact (Option.some.inj h).symm
theorem walkR {I : Hp} {lo : Int} {n : Nat} {G : Mu → Prop} : WalkD K I (Itr lo n) (rgD lo n) G := by
  have w : Walk (Itr lo n) n (fun _ => True) (YFn fun i => .int (lo + i)) := walk_range
  refine ⟨fun I1 H μ s st g i hi => w.goes i H (by rw [rgD_length] at hi; exact hi) trivial, fun I1 H μ s st g => by rw [rgD_length]; exact w.stops H trivial, fun I1 H μ s st g i x H' d hd y => ?_⟩
  have hi : i < n := by
    have := (List.getElem?_eq_some_iff.mp hd).1
    rw [rgD_length] at this
    exact this
  obtain ⟨rfl, e⟩ := w.yields i H x H' hi trivial y
  rw [rgD_get hd, e]
  exact ⟨I1, Same.refl _, st, .v _⟩
def dIRng1 (da : DTA) : DTI := fun ρ μ P => da ρ μ fun ds μ1 => ∃ j : Int, ds = [.i j] ∧ -(2 ^ 62) ≤ j ∧ j < 2 ^ 62 ∧ P (rgD 0 j.toNat) (fun _ => True) μ1
instance {ta : TA} {da} [A : SoA K ta da] : SoI K (iRng1 ta) (dIRng1 da) := ⟨fun h _ _ _ _ he st k => A.run h he st fun vs ds I1 H1 μ1 s1 st1 a1 ⟨j, e, h1, h2, p⟩ => by
  subst e
  obtain ⟨u, rfl, a⟩ := a1.one
  exact ⟨j, by rw [a.val], h1, h2, k _ _ _ I1 H1 μ1 s1 st1 walkR p⟩⟩
def dIRng2 (da : DTA) : DTI := fun ρ μ P => da ρ μ fun ds μ1 => ∃ i j : Int, ds = [.i i, .i j] ∧ (-(2 ^ 62) ≤ i ∧ i < 2 ^ 62 ∧ -(2 ^ 62) ≤ j ∧ j < 2 ^ 62) ∧ P (rgD i (j - i).toNat) (fun _ => True) μ1
instance {ta : TA} {da} [A : SoA K ta da] : SoI K (iRng2 ta) (dIRng2 da) := ⟨fun h _ _ _ _ he st k => A.run h he st fun vs ds I1 H1 μ1 s1 st1 a1 ⟨i, j, e, h1, p⟩ => by
  subst e
  obtain ⟨u, v, rfl, a, b⟩ := a1.two
  exact ⟨i, j, by rw [a.val, b.val], h1, k _ _ _ I1 H1 μ1 s1 st1 walkR p⟩⟩
def dIRev (da : DTA) : DTI := fun ρ μ P => da ρ μ fun xs μ1 => ∃ x ds G, xs = [x] ∧ Wlk x ds G ∧ G μ1 ∧ P ds.reverse G μ1
theorem walkV {I : Hp} {p : Addr} {vs : List V} {ds : List Da} {G : Mu → Prop} (a : AtAll K I vs ds) (h : ∀ I1 H μ, Same I I1 → StR K H I1 μ → G μ → SqL K H p vs) : WalkD K I (Itv K p vs.length) ds.reverse G := by
  have w : Walk (Itv K p vs.length) vs.length (fun H => SqL K H p vs) (fun i H x H' => H' = H ∧ vs[vs.length - 1 - i]? = some x) := walk_rev
  refine ⟨fun I1 H μ s st g i hi => w.goes i H (by rw [a.length]; rw [List.length_reverse] at hi; exact hi) (h _ _ _ s st g), fun I1 H μ s st g => by rw [List.length_reverse, ← a.length]; exact w.stops H (h _ _ _ s st g), fun I1 H μ s st g i x H' d hd y => ?_⟩
  have hi : i < ds.length := by
    have := (List.getElem?_eq_some_iff.mp hd).1
    rw [List.length_reverse] at this
    exact this
  obtain ⟨rfl, e⟩ := w.yields i H x H' (by rw [a.length]; exact hi) (h _ _ _ s st g) y
  obtain ⟨d', e2, a2⟩ := a.get e
  rw [List.getElem?_reverse hi, ← a.length, e2] at hd
  cases hd
  exact ⟨I1, Same.refl _, st, a2.to s⟩
instance {ta : TA} {da} [A : SoA K ta da] : SoI K (iRev K ta) (dIRev da) := ⟨fun h _ _ _ _ he st k => A.run h he st fun us xs I1 H1 μ1 s1 st1 a1 ⟨x, ds, G, e, hw, g, p⟩ => by
  subst e
  obtain ⟨u, rfl, a⟩ := a1.one
  obtain ⟨q, rfl, vs, h1, h2⟩ := hw.at_ a
  exact ⟨q, vs, rfl, h2 _ _ _ (Same.refl _) st1 g, k _ _ G I1 H1 μ1 s1 st1 (walkV h1 h2) p⟩⟩
def enD (n : Nat) : List Da → List Da
  | [] => []
  | d :: ds => .tup [.i n, d] :: enD (n + 1) ds
theorem enD_length : ∀ {n : Nat} {ds : List Da}, (enD n ds).length = ds.length
  | _, [] => rfl
  | n, d :: ds => by
    show (enD (n + 1) ds).length + 1 = ds.length + 1
    rw [enD_length]
theorem enD_get : ∀ {n : Nat} {ds : List Da} {i : Nat} {x : Da}, (enD n ds)[i]? = some x → ∃ d, ds[i]? = some d ∧ x = .tup [.i ((n + i : Nat) : Int), d]
  | n, [], i, x, h => by simp [enD] at h
  | n, d :: ds, 0, x, h => ⟨d, rfl, (Option.some.inj h).symm⟩
  | n, d :: ds, i + 1, x, h => by
    obtain ⟨d', h1, h2⟩ := enD_get (n := n + 1) (ds := ds) (i := i) h
    refine ⟨d', h1, ?_⟩
    rw [h2, show n + 1 + i = n + (i + 1) by omega]
def dIEnum (da : DTA) : DTI := fun ρ μ P => da ρ μ fun xs μ1 => ∃ x ds G, xs = [x] ∧ Wlk x ds G ∧ G μ1 ∧ P (enD 0 ds) G μ1
theorem walkE {I : Hp} {p : Addr} {vs : List V} {ds : List Da} {G : Mu → Prop} (a : AtAll K I vs ds) (h : ∀ I1 H μ, Same I I1 → StR K H I1 μ → G μ → SqL K H p vs) : WalkD K I (Ite K p) (enD 0 ds) G := by
  have w : Walk (Ite K p) vs.length (fun H => SqL K H p vs) (YPair (fun i => some (.int (i : Nat))) (fun i => vs[i]?)) := walk_enum
  rw [a.length] at w
  refine ⟨fun I1 H μ s st g i hi => w.goes i H (by rw [enD_length] at hi; exact hi) (h _ _ _ s st g), fun I1 H μ s st g => by rw [enD_length]; exact w.stops H (h _ _ _ s st g), fun I1 H μ s st g i x H' d hd y => ?_⟩
  obtain ⟨d', e1, rfl⟩ := enD_get hd
  obtain ⟨T, y1, y2, rfl, hT, rfl, e3, e4⟩ := w.yields i H x H' (List.getElem?_eq_some_iff.mp e1).1 (h _ _ _ s st g) y
  cases e3
  obtain ⟨d2, e5, a2⟩ := a.get e4
  rw [e1] at e5
  cases e5
  refine ⟨upd I1 T _, same_new (st.noI hT), st.new hT, .tup (SqT.of upd_same) ?_⟩
  rw [Nat.zero_add]
  exact .cons (.v _) (.cons ((a2.to s).to (same_new (st.noI hT))) .nil)
instance {ta : TA} {da} [A : SoA K ta da] : SoI K (iEnum K ta) (dIEnum da) := ⟨fun h _ _ _ _ he st k => A.run h he st fun us xs I1 H1 μ1 s1 st1 a1 ⟨x, ds, G, e, hw, g, p⟩ => by
  subst e
  obtain ⟨u, rfl, a⟩ := a1.one
  obtain ⟨q, rfl, vs, h1, h2⟩ := hw.at_ a
  exact ⟨q, vs, rfl, h2 _ _ _ (Same.refl _) st1 g, k _ _ G I1 H1 μ1 s1 st1 (walkE h1 h2) p⟩⟩
def zipD (xs ys : List Da) : List Da := List.zipWith (fun a b => .tup [a, b]) xs ys
def dIZip (da : DTA) : DTI := fun ρ μ P => da ρ μ fun zs μ1 => ∃ x y ds es G G', zs = [x, y] ∧ Wlk x ds G ∧ Wlk y es G' ∧ G μ1 ∧ G' μ1 ∧ P (zipD ds es) (fun μ => G μ ∧ G' μ) μ1
theorem walkZ {I : Hp} {p q : Addr} {vs ws : List V} {ds es : List Da} {G G' : Mu → Prop} (a : AtAll K I vs ds) (h : ∀ I1 H μ, Same I I1 → StR K H I1 μ → G μ → SqL K H p vs) (b : AtAll K I ws es) (h' : ∀ I1 H μ, Same I I1 → StR K H I1 μ → G' μ → SqL K H q ws) : WalkD K I (Itz K p q) (zipD ds es) (fun μ => G μ ∧ G' μ) := by
  have len : (zipD ds es).length = min vs.length ws.length := by unfold zipD; rw [List.length_zipWith, a.length, b.length]
  have w : Walk (Itz K p q) (zipD ds es).length (fun H => SqL K H p vs ∧ SqL K H q ws) (YPair (fun i => vs[i]?) (fun i => ws[i]?)) := walk_zip len
  refine ⟨fun I1 H μ s st g i hi => w.goes i H hi ⟨h _ _ _ s st g.1, h' _ _ _ s st g.2⟩, fun I1 H μ s st g => w.stops H ⟨h _ _ _ s st g.1, h' _ _ _ s st g.2⟩, fun I1 H μ s st g i x H' d hd y => ?_⟩
  obtain ⟨T, y1, y2, rfl, hT, rfl, e3, e4⟩ := w.yields i H x H' (List.getElem?_eq_some_iff.mp hd).1 ⟨h _ _ _ s st g.1, h' _ _ _ s st g.2⟩ y
  obtain ⟨d1, e5, a1⟩ := a.get e3
  obtain ⟨d2, e6, a2⟩ := b.get e4
  unfold zipD at hd
  rw [List.getElem?_zipWith, e5, e6] at hd
  cases hd
  exact ⟨upd I1 T _, same_new (st.noI hT), st.new hT, .tup (SqT.of upd_same) (.cons ((a1.to s).to (same_new (st.noI hT))) (.cons ((a2.to s).to (same_new (st.noI hT))) .nil))⟩
instance {ta : TA} {da} [A : SoA K ta da] : SoI K (iZip K ta) (dIZip da) := ⟨fun h _ _ _ _ he st k => A.run h he st fun us xs I1 H1 μ1 s1 st1 a1 ⟨x, y, ds, es, G, G', e, hw, hw', g, g', p⟩ => by
  subst e
  obtain ⟨u, v, rfl, a, b⟩ := a1.two
  obtain ⟨q, rfl, vs, h1, h2⟩ := hw.at_ a
  obtain ⟨q', rfl, vs', h1', h2'⟩ := hw'.at_ b
  exact ⟨q, q', vs, vs', rfl, h2 _ _ _ (Same.refl _) st1 g, h2' _ _ _ (Same.refl _) st1 g', k _ _ _ I1 H1 μ1 s1 st1 (walkZ h1 h2 h1' h2') p⟩⟩
/-! ### for, while, comprehensions -/
def dFor (di : DTI) (dg : DTG) (db : DTS) : DTS := fun E ρ μ => di ρ μ fun items G μ1 => ∃ Iv : Nat → Rho → Mu → Prop, Iv 0 ρ μ1 ∧ (∀ i ρ' μ', i ≤ items.length → Iv i ρ' μ' → G μ') ∧
  (∀ i x ρ' μ', items[i]? = some x → Iv i ρ' μ' → dg x ρ' μ' fun ρ2 μ2 => db { E with nx := Iv (i + 1), ct := Iv (i + 1), bk := E.nx } ρ2 μ2) ∧ ∀ ρ' μ', Iv items.length ρ' μ' → Fz E.nx ρ' μ'
instance {wi : TI} {g : TG} {tb : TS} {di dg db} [W : SoI K wi di] [G : SoG K g dg] [B : SoS K tb db] : SoS K (tFor wi g tb) (dFor di dg db) := ⟨fun {ρ μ E} h σ I H D he st k => W.run h he st fun J items Gm I1 H1 μ1 s1 st1 w ⟨Iv, h0, hG, hs, hd⟩ => by
  refine ⟨fun i m σ' H' => m = items.length - i ∧ i ≤ items.length ∧ ∃ I' ρ' μ', Same I1 I' ∧ EnvR K I' σ' ρ' ∧ StR K H' I' μ' ∧ Iv i ρ' μ', ⟨_, rfl, Nat.zero_le _, I1, ρ, μ1, Same.refl _, he.to s1, st1, h0⟩, ?_⟩
  rintro i m σ' H' ⟨rfl, hi, I', ρ', μ', s', he', st', p⟩
  have g := hG i ρ' μ' hi p
  by_cases hlt : i < items.length
  · refine .inr ⟨w.goes I' H' μ' s' st' g i hlt, fun σ2 H2 => ∃ I2 ρ2 μ2, Same I1 I2 ∧ EnvR K I2 σ2 ρ2 ∧ StR K H2 I2 μ2 ∧ Iv (i + 1) ρ2 μ2, fun σ2 H2 q => ⟨items.length - (i + 1), by omega, rfl, hlt, q⟩, fun x H2 y => ?_⟩
    obtain ⟨I2, s2, st2, a2⟩ := w.yields I' H' μ' s' st' g i x H2 items[i] (List.getElem?_eq_getElem hlt) y
    refine G.run (hs i _ ρ' μ' (List.getElem?_eq_getElem hlt) p) (he'.to s2) st2 a2 fun σ3 ρ3 I3 H3 μ3 s3 he3 st3 q3 => ?_
    have t3 : Same I1 I3 := (s'.trans s2).trans s3
    refine B.run q3 he3 st3 ⟨fun σ4 ρ4 I4 H4 μ4 s4 he4 st4 q4 => ⟨I4, ρ4, μ4, t3.trans s4, he4, st4, q4⟩, CoE.to (s1.trans t3) k.rt, CoS.to (s1.trans t3) k.nx, fun σ4 ρ4 I4 H4 μ4 s4 he4 st4 q4 => ⟨I4, ρ4, μ4, t3.trans s4, he4, st4, q4⟩⟩
  · have e : i = items.length := by omega
    subst e
    exact .inl ⟨w.stops I' H' μ' s' st' g, (hd ρ' μ' p).run he' st' (CoS.to (s1.trans s') k.nx)⟩⟩
def dWhile (dt : DTT) (db : DTS) : DTS := fun E ρ μ => ∃ W : Nat → Rho → Mu → Prop, (∃ m, W m ρ μ) ∧ ∀ m ρ' μ', W m ρ' μ' →
  dt ρ' μ' fun b μ1 => if b = true then ∃ N : Rho → Mu → Prop, (∀ ρ2 μ2, N ρ2 μ2 → ∃ m', m' < m ∧ W m' ρ2 μ2) ∧ db { E with nx := N, ct := N, bk := E.nx } ρ' μ1 else Fz E.nx ρ' μ1
instance {tt : TT} {tb : TS} {dt db} [T : SoT K tt dt] [B : SoS K tb db] : SoS K (tWhile tt tb) (dWhile dt db) := ⟨fun {ρ μ E} ⟨W, ⟨m0, h0⟩, hs⟩ σ I H D he st k => by
  refine ⟨fun m σ' H' => ∃ I' ρ' μ', Same I I' ∧ EnvR K I' σ' ρ' ∧ StR K H' I' μ' ∧ W m ρ' μ', ⟨m0, I, ρ, μ, Same.refl _, he, st, h0⟩, ?_⟩
  rintro m σ' H' ⟨I', ρ', μ', s', he', st', p⟩
  refine T.run (hs m ρ' μ' p) he' st' fun b I1 H1 μ1 s1 st1 q => ?_
  cases b with
  | true =>
    obtain ⟨N, hN, q⟩ := (show ∃ N : Rho → Mu → Prop, _ from q)
    have t1 : Same I I1 := s'.trans s1
    refine ⟨fun σ2 H2 => ∃ I2 ρ2 μ2, Same I I2 ∧ EnvR K I2 σ2 ρ2 ∧ StR K H2 I2 μ2 ∧ N ρ2 μ2, fun σ2 H2 ⟨I2, ρ2, μ2, a, b, c, d⟩ => let ⟨m', h1, h2⟩ := hN ρ2 μ2 d; ⟨m', h1, I2, ρ2, μ2, a, b, c, h2⟩, ?_⟩
    exact B.run q (he'.to s1) st1 ⟨fun σ4 ρ4 I4 H4 μ4 s4 he4 st4 q4 => ⟨I4, ρ4, μ4, t1.trans s4, he4, st4, q4⟩, CoE.to t1 k.rt, CoS.to t1 k.nx, fun σ4 ρ4 I4 H4 μ4 s4 he4 st4 q4 => ⟨I4, ρ4, μ4, t1.trans s4, he4, st4, q4⟩⟩
  | false => exact Fz.run (show Fz E.nx ρ' μ1 from q) (he'.to s1) st1 (CoS.to (s'.trans s1) k.nx)⟩
/-- one turn of a comprehension: none: nothing is put in -/
abbrev LcK := Option Da → Mu → Prop
def lcStep (dg : DTG) (dt : DTT) (de : DTE) (vs : List Nat) (ρ : Rho) : Da → Mu → LcK → Prop := fun x μ P => dg x (wipeR ρ vs) μ fun ρ2 μ2 => dt ρ2 μ2 fun b μ3 => if b = true then de ρ2 μ3 fun y μ4 => P (some y) μ4 else P none μ3
def LcB (items : List Da) (G : Mu → Prop) (stp : Da → Mu → LcK → Prop) (P : DP) (μ1 : Mu) : Prop := ∀ p, μ1 p = none → ∃ Iv : Nat → Mu → Prop, Iv 0 (setM μ1 p (.ml [])) ∧ (∀ i μ', i ≤ items.length → Iv i μ' → G μ') ∧
  (∀ i x μ', items[i]? = some x → Iv i μ' → stp x μ' fun o μ4 => match o with
    | some y => ∃ acc, μ4 p = some (.ml acc) ∧ acc.length < sizeLine ∧ Iv (i + 1) (setM μ4 p (.ml (acc ++ [y])))
    | none => Iv (i + 1) μ4) ∧ ∀ μ', Iv items.length μ' → ∃ acc, μ' p = some (.ml acc) ∧ (P (.lst acc) (remM μ' p) ∨ P (.r p) μ')
def dLc (sl vs : List Nat) (di : DTI) (dg : DTG) (dt : DTT) (de : DTE) : DTE := fun ρ μ P => (∀ i ∈ sl, i ∈ vs) ∧ di ρ μ fun items G μ1 => LcB items G (lcStep dg dt de vs ρ) P μ1
instance {wi : TI} {g : TG} {tt : TT} {te : TE} {vs : List Nat} {di dg dt de sl} [W : SoI K wi di] [G : SoG K g dg] [GW : SoGW g sl] [T : SoT K tt dt] [A : SoE K te de] : SoE K (tLc wi g tt te vs) (dLc sl vs di dg dt de) := ⟨fun {ρ μ P} ⟨hsl, h⟩ σ I H Q he st k => W.run h he st fun J items Gm I1 H1 μ1 s1 st1 w hb => by
  intro D hD
  obtain ⟨Iv, h0, hG, hs, hd⟩ := hb D (st1.noM hD)
  refine ⟨fun i m H' => m = items.length - i ∧ i ≤ items.length ∧ ∃ I' μ', Same I1 I' ∧ StR K H' I' μ' ∧ Iv i μ', ⟨_, rfl, Nat.zero_le _, I1, _, Same.refl _, st1.newM hD (c := .ml []) ⟨[], rfl, .nil⟩, h0⟩, ?_⟩
  rintro i m H' ⟨rfl, hi, I', μ', s', st', p⟩
  have g := hG i μ' hi p
  by_cases hlt : i < items.length
  · refine .inr ⟨w.goes I' H' μ' s' st' g i hlt, fun H2 => ∃ I2 μ2, Same I1 I2 ∧ StR K H2 I2 μ2 ∧ Iv (i + 1) μ2, fun H2 q => ⟨items.length - (i + 1), by omega, rfl, hlt, q⟩, fun x H2 y => ?_⟩
    obtain ⟨I2, s2, st2, a2⟩ := w.yields I' H' μ' s' st' g i x H2 items[i] (List.getElem?_eq_getElem hlt) y
    have t2 : Same I1 I2 := s'.trans s2
    refine GW.only hsl wipe_wipe ?_
    refine G.run (hs i _ μ' (List.getElem?_eq_getElem hlt) p) ((he.to (s1.trans t2)).wipe vs) st2 a2 fun σ3 ρ3 I3 H3 μ3 s3 he3 st3 q3 => ?_
    refine T.run q3 he3 st3 fun b I4 H4 μ4 s4 st4 q4 => ?_
    have t4 : Same I1 I4 := (t2.trans s3).trans s4
    cases b with
    | false => exact ⟨I4, μ4, t4, st4, q4⟩
    | true =>
      refine A.run (show de _ _ _ from q4) (he3.to s4) st4 fun v d I5 H5 μ5 s5 st5 a5 ⟨acc, q5, hz, q6⟩ => ?_
      obtain ⟨_, us, e1, e2⟩ := st5.cell D _ q5
      exact ⟨us, e1, by rw [e2.length]; exact hz, I5, _, t4.trans s5, st5.put q5 (c := .ml (acc ++ [d])) ⟨_, rfl, e2.app (.cons a5 .nil)⟩, q6⟩
  · have e : i = items.length := by omega
    subst e
    refine .inl ⟨w.stops I' H' μ' s' st' g, ?_⟩
    obtain ⟨acc, q1, q2⟩ := hd μ' p
    rcases q2 with q2 | q2
    · obtain ⟨I2, s2, st2, a2⟩ := st'.frz q1
      exact k _ _ I2 H' _ ((s1.trans s').trans s2) st2 a2 q2
    · exact k _ _ I' H' μ' (s1.trans s') st' (.v _) q2⟩
end
end LL

namespace LL
open PySem L2 PySem.Spec PyProof.Rows
/-! ### a def's promise by data, from its body's reading -/
theorem spD_len {K : PySem.W.Frag} {dsp : DSp} {n : Nat} (h : ∀ ds μ P, dsp ds μ P → ds.length = n) (vs : List V) (H : Hp) (Q : VK) (E : XK) (q : spD K dsp vs H Q E) : vs.length = n := by
  obtain ⟨I, μ, ds, P, _, a, p, _⟩ := q
  rw [a.length]
  exact h ds μ P p
abbrev endD (P : DP) : DEnds := { nx := fun _ μ => P .n μ, rt := P }
theorem body_run {K : PySem.W.Frag} {dsp : DSp} {t : TS} {de : DTS} {N : List Str} (S : SoS K t de) (h : ∀ ds μ P, dsp ds μ P → de (endD P) (startR N ds) μ) {vs : List V} {H : Hp} {Q : VK} {E : XK} (q : spD K dsp vs H Q E) :
    t { nx := fun _ H' => Q .non H', rt := Q } (L2.start N vs) H := by
  obtain ⟨I, μ, ds, P, st, a, p, k⟩ := q
  exact S.run (h ds μ P p) (startR_ok a) st ⟨fun σ' ρ' I' H' μ' s _ st' r => k _ _ _ _ _ s st' (.v _) r, k, fun _ _ _ _ _ _ _ _ r => r.elim, fun _ _ _ _ _ _ _ _ r => r.elim⟩
section
variable {P : Program} {w : World} {K : PySem.W.Frag} {mg : Str → Option Value} {base : Heap}
/-- the body of a def, read by data -/
abbrev BodyD (P : Program) (w : World) (K : PySem.W.Frag) (mg : Str → Option Value) (base : Heap) (k : Nat) (N : List Str) (qual : Str) (st : Stmt) (f : Addr) (Γ : Around → Prop) (dsp : DSp) : Prop :=
  ∀ (cdv : Value) (A : Around) (outer : List Env) (s : Shared) (H : Hp) (E : XK), Room k (A.deeper (envOfC qual (C8.fnScope st) s.heap.objs.size f cdv)) → Γ (A.deeper (envOfC qual (C8.fnScope st) s.heap.objs.size f cdv)) →
    ∃ t, PSs (cxOf CX0 P w K mg base N qual (C8.fnScope st) f cdv A outer s H E).nox (C8.fnBody st) t ∧ ∃ de, SoS K t de ∧ ∀ ds μ Q, dsp ds μ Q → de (endD Q) (startR N ds) μ
theorem fnD {x qual : Str} {st : Stmt} {f : Addr} {fd : FuncData} {N ps : List Str} {k : Nat} {dsp : DSp} (F : C8.Fun K x qual st f fd) (S : FnScope N ps (C8.fnScope st)) (len : ∀ ds μ Q, dsp ds μ Q → ds.length = ps.length) (hb : BodyD P w K mg base k N qual st f (fun _ => True) dsp) :
    FnOk P w K mg base C8.CX0 (k + 1) f fd ps (spD K dsp) :=
  C8.fn0 F S (spD_len len) fun cdv A outer s H vs Q E hr h => let ⟨t, h1, de, h2, h3⟩ := hb cdv A outer s H E hr trivial; ⟨t, h1, body_run h2 h3 h⟩
theorem fnDQ {Γ : Around → Prop} (hΓ : ∀ A env, Γ A → Γ (A.deeper env)) {x qual : Str} {st : Stmt} {f : Addr} {fd : FuncData} {N ps : List Str} {k : Nat} {dsp : DSp} (F : C8.Fun K x qual st f fd) (S : FnScope N ps (C8.fnScope st)) (len : ∀ ds μ Q, dsp ds μ Q → ds.length = ps.length) (hb : BodyD P w K mg base k N qual st f Γ dsp) :
    FnQ Γ P w K mg base (k + 1) f fd ps (spD K dsp) :=
  fnQ0 hΓ F S (spD_len len) fun cdv A outer s H vs Q E hr hA h => let ⟨t, h1, de, h2, h3⟩ := hb cdv A outer s H E hr hA; ⟨t, h1, body_run h2 h3 h⟩
end
/-! ### the pot -/
def Fr (a : Addr) (μ μ' : Mu) : Prop := ∀ b, b ≠ a → μ' b = μ b
theorem Fr.refl {a : Addr} {μ : Mu} : Fr a μ μ := fun _ _ => rfl
theorem Fr.trans {a : Addr} {μ μ1 μ2 : Mu} (h : Fr a μ μ1) (h' : Fr a μ1 μ2) : Fr a μ μ2 := fun b n => (h' b n).trans (h b n)
theorem Fr.set {a : Addr} {μ : Mu} {c : Cell} : Fr a μ (setM μ a c) := fun _ n => setM_ne n
def Pt (a : Addr) (μ : Mu) : Prop := ∃ p0 p1 : Int, μ a = some (.ml [.i p0, .i p1]) ∧ 0 ≤ p0 ∧ 0 ≤ p1 ∧ p1 < 2147483648
theorem Pt.some {a : Addr} {μ : Mu} (h : Pt a μ) : ∃ c, μ a = some c := let ⟨_, _, e, _⟩ := h; ⟨_, e⟩
theorem Pt.ne {a p : Addr} {μ : Mu} (h : Pt a μ) (q : μ p = none) : p ≠ a := fun z => by
  obtain ⟨c, e⟩ := h.some
  rw [z, e] at q
  cases q
theorem Pt.setM {a p : Addr} {μ : Mu} {c : Cell} (h : Pt a μ) (n : p ≠ a) : Pt a (setM μ p c) := by
  obtain ⟨p0, p1, e, q⟩ := h
  exact ⟨p0, p1, by rw [setM_ne n.symm]; exact e, q⟩
theorem Pt.remM {a p : Addr} {μ : Mu} (h : Pt a μ) (n : p ≠ a) : Pt a (remM μ p) := by
  obtain ⟨p0, p1, e, q⟩ := h
  exact ⟨p0, p1, by rw [remM_ne n.symm]; exact e, q⟩
/-! ### comprehensions, the usual kinds -/
theorem getE_take {α : Type} {xs : List α} {i : Nat} {x : α} (h : xs[i]? = some x) : xs.take (i + 1) = xs.take i ++ [x] := by
  rw [List.take_add_one, h]
  rfl
/-- each turn gives f of its item, or nothing; nothing else changes -/
theorem lcF {items : List Da} {G : Mu → Prop} {stp : Da → Mu → LcK → Prop} {P : DP} {μ1 : Mu} (f : Da → Option Da) (hz : items.length < 100000) (hG : ∀ μ', (∀ b, μ1 b ≠ none → μ' b = μ1 b) → G μ')
    (hs : ∀ (i : Nat) x μ' (R : LcK), items[i]? = some x → (∀ b, μ1 b ≠ none → μ' b = μ1 b) → R (f x) μ' → stp x μ' R) (hp : NewL (items.filterMap f) μ1 P) : LcB items G stp P μ1 := by
  intro p hp0
  have fr : ∀ c, ∀ b, μ1 b ≠ none → setM μ1 p c b = μ1 b := fun c b hb => setM_ne fun z => hb (by rw [z]; exact hp0)
  refine ⟨fun i μ' => μ' = setM μ1 p (.ml ((items.take i).filterMap f)), rfl, fun i μ' _ e => by rw [e]; exact hG _ (fr _), fun i x μ' hx e => ?_, fun μ' e => ?_⟩
  · subst e
    refine hs i x _ _ hx (fr _) ?_
    have e2 := getE_take hx
    cases q : f x with
    | none =>
      show setM μ1 p _ = setM μ1 p _
      rw [e2, List.filterMap_append]
      simp [q]
    | some y =>
      refine ⟨_, setM_at, Nat.lt_of_le_of_lt (List.length_filterMap_le _ _) (Nat.lt_of_le_of_lt (by rw [List.length_take]; omega) (Nat.lt_of_lt_of_le hz (by decide))), ?_⟩
      show setM (setM μ1 p _) p _ = setM μ1 p _
      rw [setM_setM, e2, List.filterMap_append]
      simp [q]
  · subst e
    refine ⟨_, setM_at, ?_⟩
    rw [List.take_length, remM_setM hp0]
    rcases hp with h | h
    · exact .inl h
    · exact .inr (h p hp0)
theorem lcM {items : List Da} {G : Mu → Prop} {stp : Da → Mu → LcK → Prop} {P : DP} {μ1 : Mu} (f : Da → Da) (hz : items.length < 100000) (hG : ∀ μ', (∀ b, μ1 b ≠ none → μ' b = μ1 b) → G μ')
    (hs : ∀ (i : Nat) x μ' (R : LcK), items[i]? = some x → (∀ b, μ1 b ≠ none → μ' b = μ1 b) → R (some (f x)) μ' → stp x μ' R) (hp : NewL (items.map f) μ1 P) : LcB items G stp P μ1 :=
  lcF (fun x => some (f x)) hz hG hs (by rw [List.filterMap_eq_map']; exact hp)
/-- each turn draws from the pot at a, and gives something that is ok -/
theorem lcP {items : List Da} {G : Mu → Prop} {stp : Da → Mu → LcK → Prop} {P : DP} {μ1 : Mu} {a : Addr} (ok : Nat → Da → Prop) (hz : items.length < 100000) (hG : ∀ μ', (∀ b, b ≠ a → μ1 b ≠ none → μ' b = μ1 b) → G μ') (pt : Pt a μ1)
    (hs : ∀ (i : Nat) x μ' (R : LcK), items[i]? = some x → (∀ b, b ≠ a → μ1 b ≠ none → μ' b = μ1 b) → Pt a μ' → (∀ y μ'', Fr a μ' μ'' → Pt a μ'' → ok i y → R (some y) μ'') → stp x μ' R)
    (hp : ∀ out μ', out.length = items.length → (∀ (i : Nat) y, out[i]? = some y → ok i y) → Fr a μ1 μ' → Pt a μ' → NewL out μ' P) : LcB items G stp P μ1 := by
  intro p hp0
  have ne : p ≠ a := pt.ne hp0
  have J : ∀ {i : Nat} {μ' : Mu}, (∃ acc : List Da, μ' p = some (.ml acc) ∧ acc.length = i ∧ (∀ (j : Nat) y, acc[j]? = some y → ok j y) ∧ Fr a μ1 (remM μ' p) ∧ Pt a μ') → ∀ b, b ≠ a → μ1 b ≠ none → μ' b = μ1 b := fun {i μ'} ⟨acc, _, _, _, fr, _⟩ b hb h0 => by
    have nb : b ≠ p := fun z => h0 (by rw [z]; exact hp0)
    have := fr b hb
    rw [remM_ne nb] at this
    exact this
  refine ⟨fun i μ' => ∃ acc : List Da, μ' p = some (.ml acc) ∧ acc.length = i ∧ (∀ (j : Nat) y, acc[j]? = some y → ok j y) ∧ Fr a μ1 (remM μ' p) ∧ Pt a μ', ⟨[], setM_at, rfl, fun j y h => by simp at h, by rw [remM_setM hp0]; exact .refl, pt.setM ne⟩, fun i μ' _ e => hG _ (J e), fun i x μ' hx e => ?_, fun μ' e => ?_⟩
  · obtain ⟨acc, e1, e2, e3, e4, e5⟩ := id e
    refine hs i x μ' _ hx (J e) e5 fun y μ'' fr pt'' oy => ?_
    refine ⟨acc, (fr p ne).trans e1, ?_, acc ++ [y], setM_at, by rw [List.length_append, e2]; rfl, fun j z hj => ?_, ?_, pt''.setM ne⟩
    · have := (List.getElem?_eq_some_iff.mp hx).1
      exact Nat.lt_of_lt_of_le (by omega : acc.length < 100000) (by decide)
    · by_cases hjl : j < acc.length
      · rw [List.getElem?_append_left hjl] at hj
        exact e3 j z hj
      · rw [List.getElem?_append_right (by omega)] at hj
        have : j - acc.length = 0 := by
          cases q : j - acc.length with
          | zero => rfl
          | succ n => rw [q] at hj; simp at hj
        rw [this] at hj
        cases hj
        rw [show j = i by omega]
        exact oy
    · intro b hb
      by_cases nb : b = p
      · rw [nb, remM_at, hp0]
      · rw [remM_ne nb, setM_ne nb, fr b hb]
        have := e4 b hb
        rw [remM_ne nb] at this
        exact this
  · obtain ⟨acc, e1, e2, e3, e4, e5⟩ := e
    refine ⟨acc, e1, ?_⟩
    rcases hp acc (remM μ' p) e2 e3 e4 (e5.remM ne) with h | h
    · exact .inl h
    · refine .inr ?_
      have q := h p remM_at
      have e : setM (remM μ' p) p (.ml acc) = μ' := by
        funext b
        by_cases nb : b = p
        · rw [nb, setM_at, e1]
        · rw [setM_ne nb, remM_ne nb]
      rw [e] at q
      exact q
end LL

namespace LL
open PySem L2 PySem.Spec PyProof.Rows
section
variable {K : PySem.W.Frag}
theorem fzv_new {P : DP} {p : Addr} {ds : List Da} {μ : Mu} (hp : μ p = none) (h : P (.lst ds) μ) : FzV P (.r p) (setM μ p (.ml ds)) := .inr ⟨p, ds, rfl, setM_at, by rw [remM_setM hp]; exact h⟩
theorem fzv_newL {P : DP} {p : Addr} {ds : List Da} {μ : Mu} (hp : μ p = none) (h : NewL ds μ P) : FzV P (.r p) (setM μ p (.ml ds)) := h.elim (fzv_new hp) fun h => .inl (h p hp)
theorem fzv_b {P : DP} {c : Bool} {μ : Mu} : FzV P (.b c) μ = P (.b c) μ := propext ⟨fun h => h.elim id (fun ⟨a, ds, e, _⟩ => (by cases e)), Or.inl⟩
theorem fzv_i {P : DP} {c : Int} {μ : Mu} : FzV P (.i c) μ = P (.i c) μ := propext ⟨fun h => h.elim id (fun ⟨a, ds, e, _⟩ => (by cases e)), Or.inl⟩
theorem fzv_s {P : DP} {c : Str} {μ : Mu} : FzV P (.s c) μ = P (.s c) μ := propext ⟨fun h => h.elim id (fun ⟨a, ds, e, _⟩ => (by cases e)), Or.inl⟩
theorem fzv_n {P : DP} {μ : Mu} : FzV P .n μ = P .n μ := propext ⟨fun h => h.elim id (fun ⟨a, ds, e, _⟩ => (by cases e)), Or.inl⟩
theorem fzv_t {P : DP} {c : List Da} {μ : Mu} : FzV P (.tup c) μ = P (.tup c) μ := propext ⟨fun h => h.elim id (fun ⟨a, ds, e, _⟩ => (by cases e)), Or.inl⟩
theorem fzv_l {P : DP} {c : List Da} {μ : Mu} : FzV P (.lst c) μ = P (.lst c) μ := propext ⟨fun h => h.elim id (fun ⟨a, ds, e, _⟩ => (by cases e)), Or.inl⟩
theorem fzv_o {P : DP} {C : Addr} {ns : List Str} {c : List Da} {μ : Mu} : FzV P (.obj C ns c) μ = P (.obj C ns c) μ := propext ⟨fun h => h.elim id (fun ⟨a, ds, e, _⟩ => (by cases e)), Or.inl⟩
abbrev rTupOf (K : PySem.W.Frag) : List V → Hp → VK → Prop := fun xs H Q => ∃ p ys, xs = [.ref p] ∧ ((SqL K H p ys ∧ ∀ l, H l = none → Q (.ref l) (upd H l (.tup ys))) ∨ (SqT K H p ys ∧ Q (.ref p) H))
/-- isinstance(x, (c1, c2, ..)), the tuple made on the spot -/
def dIsiTE (K : PySem.W.Frag) (da : DTE) (dA : DTA) : DTE := fun ρ μ P => da ρ μ fun x μ1 => dA ρ μ1 fun cs μ2 => ∃ (vs : List V) (us : List Value) (t : Value) (b : Bool), cs = vs.map Da.v ∧ vs.length ≤ sizeLine ∧ Paired ClsV vs us ∧ TyD K μ2 x t ∧ PySem.W.kitAny K t us = some b ∧ P (.b b) μ2
theorem TyX.new {H : Hp} {p : Addr} {o : HO} {u : V} {t : Value} {I : Hp} {μ : Mu} {x : Da} (h : TyD K μ x t) (st : StR K H I μ) (a : At K I u x) (hp : H p = none) : TyX K (upd H p o) u t := h.to (st.lay hp) a
instance {ta : TE} {tA : TA} {da dA} [A : SoE K ta da] [B : SoA K tA dA] : SoE K (tCB (rIsiT K) (tCons ta (tCons (tTup tA) tNil))) (dIsiTE K da dA) := ⟨fun h _ _ _ _ he st k => A.run h he st fun u x I1 H1 μ1 s1 st1 a1 h1 => B.run h1 (he.to s1) st1 fun vs cs I2 H2 μ2 s2 st2 a2 ⟨ws, us, t, b, e, hz, hc, ht, hk, p⟩ => by
  subst e
  obtain rfl := a2.vals
  refine ⟨hz, fun q hq => ⟨u, q, vs, t, us, b, rfl, upd_same, hc, TyX.new ht st2 (a1.to s2) hq, hk, ?_⟩⟩
  exact k _ _ _ _ _ (s1.trans s2) (st2.lay hq) (.v _) p⟩
def dIOr (d1 d2 : DTI) : DTI := fun ρ μ P => d1 ρ μ P ∨ d2 ρ μ P
instance {w1 w2 : TI} {d1 d2} [A : SoI K w1 d1] [B : SoI K w2 d2] : SoI K (fun σ H R => w1 σ H R ∨ w2 σ H R) (dIOr d1 d2) := ⟨fun h _ _ _ _ he st k => h.elim (fun h => .inl (A.run h he st k)) fun h => .inr (B.run h he st k)⟩
theorem kitNo1 {t : String} {c d : Value} {b : Bool} (h : PySem.W.kitOne K (.type t) c = some false) (h2 : PySem.W.kitOne K (.type t) d = some b) : PySem.W.kitAny K (.type t) [c, d] = some b := by
  unfold PySem.W.kitAny
  rw [h]
  show PySem.W.kitAny K (.type t) [d] = some b
  unfold PySem.W.kitAny
  rw [h2]
  cases b <;> rfl
theorem kitYes1 {t : String} {c : Value} {us : List Value} (h : PySem.W.kitOne K (.type t) c = some true) : PySem.W.kitAny K (.type t) (c :: us) = some true := by
  unfold PySem.W.kitAny
  rw [h]
end
theorem pi_or {X : Cx} {tg it : Expr} {w1 w2 : TI} (h1 : PI X tg it w1) (h2 : PI X tg it w2) : PI X tg it (fun σ H R => w1 σ H R ∨ w2 σ H R) := ⟨fun pins s σ H R I h => h.elim (h1.run pins s σ H R I) (h2.run pins s σ H R I)⟩
theorem ofStr_eq {a b : String} : (Str.ofString a = Str.ofString b) = (a = b) := propext ⟨fun h => by
  rw [Str.ofString_eq_toList, Str.ofString_eq_toList] at h
  injection h with h
  have h2 : a.toList.map Char.toNat = b.toList.map Char.toNat := congrArg Array.toList h
  have h3 : a.toList = b.toList := List.map_inj_right (fun x y e => Char.ext (UInt32.toNat_inj.mp e)) |>.mp h2
  exact String.toList_inj.mp h3, fun h => by rw [h]⟩
theorem scal_ii {a b : Int} : (scal (.int a) (.int b) = true) = True := by simp [scal]
theorem scal_ss {a b : Str} : (scal (.str a) (.str b) = true) = True := by simp [scal]
theorem scal_bb {a b : Bool} : (scal (.bl a) (.bl b) = true) = True := by simp [scal]
/-! ### a call of a local name that holds a class; of an instance by one name -/
section
variable {X : Cx} {k j i : Nat} {C : Addr} {x : Str} {sp : Sp} {p pos : Pos} {e : Expr} {es : List Expr} {t : TA}
def tMakeL (i : Nat) (C : Addr) (sp : Sp) (t : TA) : TE := fun σ H Q => σ[i]? = some (some (.ref C)) ∧ tMake C sp [] C8.E0 t σ H Q
theorem pe_mkL (c : C8.Mak X.prog X.w X.K X.mg X.base k x C sp []) {y : Str} (hr : Room j X.A) (hk : k + 1 ≤ j) (hN : X.N[i]? = some y) (hv : Vis X.env.scope y) (ha : PA X (e :: es) t)
    (hdb : (y == ("__debug__" : Str)) = false := by decide) (hcd : (y == ("__classdict__" : Str)) = false := by decide) (he : starEach (e :: es) X.env = (false, eval e X.env) :: starEach es X.env := by rfl) (hpl : (backTo pos (starEach es X.env)).any (·.1) = false := by rfl) :
    PE X (.Call (.Name y p) (e :: es) [] pos) (tMakeL i C sp t) := by
  obtain ⟨f, fd, ps, ds, M, F, hm, b, d⟩ := c.ex
  refine ⟨fun pins s σ H Q I h => ?_⟩
  obtain ⟨hs, ht⟩ := h
  refine wpAny_Call_Name_kw (thn ((pe_var (pos := p) hN hv hdb hcd).run pins s σ H (fun v H1 => v = .ref C ∧ H1 = H) I ⟨.ref C, hs, rfl, rfl⟩) fun u s1 ⟨v, H1, I1, r1, q1⟩ => ?_)
  obtain ⟨rfl, rfl⟩ := q1
  cases r1
  refine PySem.W.callWith_K (h₀ := X.base) I.ok.mod.kin M.kp (thn (ha.run pos pins s1 σ _ _ I1 ht) fun us s2 ⟨vs, H2, I2, r, q⟩ => ⟨I2.kIn, ?_⟩) he hpl
  exact run_make M F (hr.mono hk) b d C8.pass0 I2 r q
end
section
variable {K : PySem.W.Frag}
def dMakeL (i : Nat) (C : Addr) (dsp : DSp) (da : DTA) : DTE := fun ρ μ P => ρ[i]? = some (some (.r C)) ∧ dMake C dsp da ρ μ P
instance {i : Nat} {C : Addr} {dsp : DSp} {ta : TA} {da} [A : SoA K ta da] : SoE K (tMakeL i C (spD K dsp) ta) (dMakeL i C dsp da) := ⟨fun ⟨e, h⟩ _ _ _ _ he st k => by
  obtain ⟨v, a, b⟩ := he.2 _ _ e
  rw [b.val] at a
  exact ⟨a, SoE.run (K := K) h he st k⟩⟩
/-- C.m(..), m a classmethod that takes the rest as a tuple -/
def dCMeth (C : Addr) (dsp : DSp) (da : DTE) (dr : DTA) : DTE := fun ρ μ P => da ρ μ fun x μ1 => x = .r C ∧ dr ρ μ1 fun ds μ2 => dsp (.r C :: ds) μ2 P
instance {C : Addr} {dsp : DSp} {E : XK} {ta : TE} {tr : TA} {da dr} [A : SoE K ta da] [R : SoA K tr dr] : SoE K (ClX.tCMeth C (spD K dsp) E ta tr) (dCMeth C dsp da dr) := ⟨fun h _ _ _ _ he st k => A.run h he st fun u x I1 H1 μ1 s1 st1 a1 ⟨e, h1⟩ => by
  subst e
  exact ⟨a1.val, R.run h1 (he.to s1) st1 fun us xs I2 H2 μ2 s2 st2 a2 p => ⟨I2, μ2, .r C :: xs, _, st2, .cons (.v _) a2, p, CoE.to (s1.trans s2) k⟩⟩⟩
end
/-! ### repr -/
section
variable {K : PySem.W.Frag}
def dReprD : DRC := fun xs μ P => ∃ x d, xs = [x] ∧ (∀ v, x ≠ .v v) ∧ x.py = some d ∧ d.showable = true ∧ d.hasDict = false ∧ d.depth ≤ 60 ∧ d.shown.length ≤ sizeLine ∧ P (.s d.shown) μ
instance : SoC K (rRepr K) dReprD := ⟨fun ⟨x, d, e, n, h1, h2, h3, h4, h5, p⟩ us I H Q st a0 k => by
  subst e
  obtain ⟨u, rfl, a⟩ := a0.one
  have q := a.dp st.same h1
  cases a with
  | v _ => exact absurd rfl (n _)
  | lst a1 a2 => exact ⟨_, d, rfl, q, h2, h3, h4, h5, k _ _ _ _ _ (Same.refl _) st (.v _) p⟩
  | tup a1 a2 => exact ⟨_, d, rfl, q, h2, h3, h4, h5, k _ _ _ _ _ (Same.refl _) st (.v _) p⟩
  | rd a1 a2 => exact ⟨_, d, rfl, q, h2, h3, h4, h5, k _ _ _ _ _ (Same.refl _) st (.v _) p⟩
  | obj a1 a2 a3 => cases h1⟩
/-- D tells, of what stands in a heap, the text that tx tells of data -/
class TellD (K : PySem.W.Frag) (D : V → Str → Hp → Prop) (tx : outParam (Da → Str → Prop)) : Prop where
  to : ∀ {d : Da} {t : Str}, tx d t → ∀ {v : V} {I H : Hp}, Same I H → At K I v d → D v t H
def dReprL (tx : Da → Str → Prop) : DRC := fun xs μ P => ∃ ds ts, xs = [.lst ds] ∧ (∃ C ns gs, Da.obj C ns gs ∈ ds) ∧ All2 tx ds ts ∧ (listText ts).length ≤ sizeLine ∧ P (.s (listText ts)) μ
theorem AtAll.mem {I : Hp} {d : Da} : ∀ {vs : List V} {ds : List Da}, AtAll K I vs ds → d ∈ ds → ∃ v, v ∈ vs ∧ At K I v d
  | _, _, .cons a b, h => by
    rcases List.mem_cons.mp h with e | h
    · subst e
      exact ⟨_, List.mem_cons_self, a⟩
    · obtain ⟨v, h1, h2⟩ := b.mem h
      exact ⟨v, List.mem_cons_of_mem _ h1, h2⟩
theorem StR.ext {H H' I : Hp} {μ : Mu} (st : StR K H I μ) (e : Same H H') : StR K H' I μ := ⟨st.same.trans e, fun a c h => by
  obtain ⟨h1, h2⟩ := st.cell a c h
  obtain ⟨u, hu⟩ := h2.some
  refine ⟨h1, ?_⟩
  rw [e _ _ hu]
  rw [hu] at h2
  exact h2⟩
instance {D : V → Str → Hp → Prop} {tx} [T : TellD K D tx] : SoC K (rReprL D) (dReprL tx) := ⟨fun ⟨ds, ts, e, ⟨C, ns, gs, hm⟩, hA, hz, p⟩ us I H Q st a0 k => by
  subst e
  obtain ⟨u, rfl, a⟩ := a0.one
  cases a with
  | lst h1 h2 =>
    obtain ⟨v, h3, h4⟩ := h2.mem hm
    have hl := h2.length
    refine ⟨_, _, ts, rfl, st.same _ _ h1, fun z => ?_, ?_, ⟨by rw [hl]; exact hA.1, fun i x t hx ht => ?_⟩, hz, fun H' ex => k _ _ _ _ _ (Same.refl _) (st.ext fun b o h => ex b o h) (.v _) p⟩
    · rw [z] at h3; cases h3
    · cases h4 with | obj q1 q2 q3 => exact ⟨_, _, _, _, _, st.same _ _ h1, h3, st.same _ _ q1⟩
    · obtain ⟨d, hd, ha⟩ := h2.get hx
      exact T.to (hA.2 i d t hd ht) st.same ha⟩
end
end LL
namespace LL
open PySem L2 PySem.Spec PyProof.Rows
section
variable {K : PySem.W.Frag} {μ : Mu}
theorem isi_eq {c : String} {t : Value} {x : Da} {b : Bool} {F : Bool → Prop} (hT : ∀ t', TyD K μ x t' → t' = t) (h : TyD K μ x t) (k : PySem.W.kitOne K t (.type c) = some b) :
    (∃ x' u, ClsV (.ty c) u ∧ TyD K μ x x' ∧ ∃ b', PySem.W.kitOne K x' u = some b' ∧ F b') = F b := propext ⟨fun ⟨x', u, h1, h2, b', h3, h4⟩ => by
  cases h1
  rw [hT _ h2, k] at h3
  cases h3
  exact h4, fun z => ⟨t, _, .ty c, h, b, k, z⟩⟩
theorem tyd_i {i : Int} {t : Value} (h : TyD K μ (.i i) t) : t = .type "int" := by
  cases h with
  | int _ => rfl
  | lst l => rcases l with l | l | ⟨a, l, _⟩ <;> cases l
  | ins l => rcases l with l | ⟨a, l, _⟩ <;> cases l
theorem tyd_s {i : Str} {t : Value} (h : TyD K μ (.s i) t) : t = .type "str" := by
  cases h with
  | str _ => rfl
  | lst l => rcases l with l | l | ⟨a, l, _⟩ <;> cases l
  | ins l => rcases l with l | ⟨a, l, _⟩ <;> cases l
theorem tyd_t {i : List Da} {t : Value} (h : TyD K μ (.tup i) t) : t = .type "tuple" := by
  cases h with
  | tup _ => rfl
  | lst l => rcases l with l | l | ⟨a, l, _⟩ <;> cases l
  | ins l => rcases l with l | ⟨a, l, _⟩ <;> cases l
theorem isi_ii {i : Int} {F : Bool → Prop} : (∃ x' u, ClsV (.ty "int") u ∧ TyD K μ (.i i) x' ∧ ∃ b', PySem.W.kitOne K x' u = some b' ∧ F b') = F true := isi_eq (fun _ => tyd_i) (.int i) (kit_ty (by decide +kernel))
theorem isi_ib {i : Int} {F : Bool → Prop} : (∃ x' u, ClsV (.ty "bool") u ∧ TyD K μ (.i i) x' ∧ ∃ b', PySem.W.kitOne K x' u = some b' ∧ F b') = F false := isi_eq (fun _ => tyd_i) (.int i) (kit_ty (by decide +kernel))
theorem isi_ss {i : Str} {F : Bool → Prop} : (∃ x' u, ClsV (.ty "str") u ∧ TyD K μ (.s i) x' ∧ ∃ b', PySem.W.kitOne K x' u = some b' ∧ F b') = F true := isi_eq (fun _ => tyd_s) (.str i) (kit_ty (by decide +kernel))
theorem isi_tt {i : List Da} {F : Bool → Prop} : (∃ x' u, ClsV (.ty "tuple") u ∧ TyD K μ (.tup i) x' ∧ ∃ b', PySem.W.kitOne K x' u = some b' ∧ F b') = F true := isi_eq (fun _ => tyd_t) (.tup i) (kit_ty (by decide +kernel))
/-- what is read of data, told as equations -/
theorem sq_t {ds : List Da} {F : List Da → Prop} : (∃ x, Sq μ (.tup ds) x ∧ F x) = F ds := propext (Iff.intro (fun ⟨x, h, f⟩ => by
  rcases h with h | h
  · rcases h with h | h | ⟨a, h, _⟩ <;> cases h
  · cases h
    exact f) (fun f => ⟨ds, .t, f⟩))
theorem sq_l {ds : List Da} {F : List Da → Prop} : (∃ x, Sq μ (.lst ds) x ∧ F x) = F ds := propext (Iff.intro (fun ⟨x, h, f⟩ => by
  rcases h with h | h
  · rcases h with h | h | ⟨a, h, _⟩ <;> cases h
    exact f
  · cases h) (fun f => ⟨ds, .l, f⟩))
theorem lst_l {ds : List Da} {F : List Da → Prop} : (∃ x, Lst μ (.lst ds) x ∧ F x) = F ds := propext (Iff.intro (fun ⟨x, h, f⟩ => by
  rcases h with h | h | ⟨a, h, _⟩ <;> cases h
  exact f) (fun f => ⟨ds, .l, f⟩))
theorem lstT_l {ds : List Da} {F : List Da → Prop} : (∃ x, LstT μ (.lst ds) x ∧ F x) = F ds := propext (Iff.intro (fun ⟨x, h, f⟩ => by
  rcases h with h | ⟨a, h, _⟩ <;> cases h
  exact f) (fun f => ⟨ds, .inl rfl, f⟩))
theorem ins_o {C : Addr} {ns : List Str} {ds : List Da} {F : List Str → List Da → Prop} : (∃ x y, Ins C μ (.obj C ns ds) x y ∧ F x y) = F ns ds := propext (Iff.intro (fun ⟨x, y, h, f⟩ => by
  rcases h with h | ⟨a, h, _⟩ <;> cases h
  exact f) (fun f => ⟨ns, ds, .o, f⟩))
theorem ins_oC {C : Addr} {ns : List Str} {ds : List Da} {F : Addr → List Str → List Da → Prop} : (∃ c x y, Ins c μ (.obj C ns ds) x y ∧ F c x y) = F C ns ds := propext (Iff.intro (fun ⟨c, x, y, h, f⟩ => by
  rcases h with h | ⟨a, h, _⟩ <;> cases h
  exact f) (fun f => ⟨C, ns, ds, .o, f⟩))
theorem fld_cons {n f : Str} {ns : List Str} {d : Da} {ds : List Da} : fld (n :: ns) (d :: ds) f = if n = f then some d else fld ns ds f := rfl
end
end LL

/-! enumerate over a tuple -/
namespace PySem
open Builtin
section
variable {prog : Program} {w : World} {A : Around} {E : Value → Shared → Prop} {s : Shared}
theorem et_next {z t : Addr} {j : Nat} {us : Array Value} {x : Value} {Q : Value → Shared → Prop} (hz : s.heap.IsTupleIter z t j) (hT : s.heap.IsTuple t us) (hx : us[j]? = some x)
    (k : ∀ g, g.IsTupleIter z t (j + 1) → Heap.SameBut z s.heap g → Q x { s with heap := g }) : wpAny (model prog w) A (Builtin.SmallTypes.nextOf (.ref z)) Q E s := by
  obtain ⟨oz, e1, e2, e3⟩ := id hz
  obtain ⟨oT, f1, _, n, f3⟩ := hT
  unfold Builtin.SmallTypes.nextOf
  refine wpAny_bind (wpAny_callSpecial?_slot (name := Str.ofString "__next__") hz.typeIs F.slot_tuple_iterator_next (wpAny_call_entry F.slot_tuple_iterator_next hz.typeIs F.entry_tuple_iterator_next ?_ (F.args_tuple_iterator_next_1 _)))
  show wpAny _ _ (field (.ref z) 0 >>= _) _ _ s
  refine wpAny_bind (wpAny_field e1 e3 (x := .ref t) rfl ?_)
  show wpAny _ _ (if (Value.ref t == Value.none) = true then _ else (field (.ref z) 1 >>= _)) _ _ s
  rw [if_neg (by exact Bool.false_ne_true : ¬ ((Value.ref t == Value.none) = true))]
  refine wpAny_bind (wpAny_field e1 e3 (x := .int j 0) rfl ?_)
  show wpAny _ _ (seqItems? (.ref t) >>= fun r => _) _ _ s
  refine wpAny_bind (wpAny_seqItems f1 f3 ?_)
  simp only [Int.toNat_natCast, hx]
  refine wpAny_bind (wpAny_setField e1 e3 (by simp) (wpAny_pure ⟨x, rfl, wpAny_pure (k _ ?_ (Heap.SameBut.update ..))⟩))
  exact ⟨_, Heap.get?_update_self _ e1 (Obj.isFreed_of_fields (Obj.data_mapFields e3 _)), (Obj.cls_mapFields ..).trans e2, by rw [Obj.data_mapFields e3]; simp [rawInt]⟩
theorem et_last {z t : Addr} {j : Nat} {us : Array Value} {Q : Value → Shared → Prop} (hh : A.handled = none) (hz : s.heap.IsTupleIter z t j) (hT : s.heap.IsTuple t us) (hx : us[j]? = none)
    (k : ∀ g e, Heap.ExtBut z s.heap g → (∃ o, g.get? e = some o ∧ o.cls = .type "StopIteration") → E (.ref e) { s with heap := g }) : wpAny (model prog w) A (Builtin.SmallTypes.nextOf (.ref z)) Q E s := by
  obtain ⟨oz, e1, e2, e3⟩ := id hz
  obtain ⟨oT, f1, _, n, f3⟩ := hT
  unfold Builtin.SmallTypes.nextOf
  refine wpAny_bind (wpAny_callSpecial?_slot (name := Str.ofString "__next__") hz.typeIs F.slot_tuple_iterator_next (wpAny_call_entry F.slot_tuple_iterator_next hz.typeIs F.entry_tuple_iterator_next ?_ (F.args_tuple_iterator_next_1 _)))
  show wpAny _ _ (field (.ref z) 0 >>= _) _ _ s
  refine wpAny_bind (wpAny_field e1 e3 (x := .ref t) rfl ?_)
  show wpAny _ _ (if (Value.ref t == Value.none) = true then _ else (field (.ref z) 1 >>= _)) _ _ s
  rw [if_neg (by exact Bool.false_ne_true : ¬ ((Value.ref t == Value.none) = true))]
  refine wpAny_bind (wpAny_field e1 e3 (x := .int j 0) rfl ?_)
  show wpAny _ _ (seqItems? (.ref t) >>= fun r => _) _ _ s
  refine wpAny_bind (wpAny_seqItems f1 f3 ?_)
  simp only [Int.toNat_natCast, hx]
  refine wpAny_bind (wpAny_rule (wpAny_bind (wpAny_setField e1 e3 (by simp) ?_)))
  show wpAny _ _ (newExc (.type "StopIteration") [] >>= fun r => _) _ _ _
  refine wpAny_bind (?_)
  simp only [newTuple, newExc]
  refine wpAny_bind (wpAny_newObj_type (?_) (by size_fits))
  refine wpAny_bind (m := firstArgMember _ _) (wpAny_of_eq (a := Value.none) (by first | (simp only [firstArgMember]; rfl) | rfl) ?_)
  refine wpAny_newObj_type (?_) (by size_fits)
  simp only [raiseNew]
  refine wpAny_bind (wpAny_handled (?_))
  first | rw [hh] | rw [show A.in1.handled = none from hh]
  refine wpAny_bind (wpAny_pure (wpAny_throw (?_)))
  exact k _ _ (((Heap.SameBut.update ..).extBut.push _).push _) ⟨_, Heap.get?_push_size _ rfl, rfl⟩
end
theorem et_draws {prog : Program} {w : World} {A : Around} (hh : A.handled = none) (z t : Addr) (hne : t ≠ z) (us : Array Value) :
    Draws prog w A z [z, t] us.size (fun i v => us[i]? = some v) (fun i h => h.IsTupleIter z t i ∧ h.IsTuple t us) where
  live := fun _ _ st => let ⟨o, q, _⟩ := st.1; ⟨o, q⟩
  frame := fun _ _ _ st hk => ⟨st.1.at fun o e => hk z (by simp) o e, let ⟨o, q, r⟩ := st.2; ⟨o, hk t (by simp) o q, r⟩⟩
  item := fun i s Q E hi st hQ => et_next st.1 st.2 (x := us[i]) (by simp [hi]) fun g a b => hQ _ g s.toks (by simp [hi]) ⟨a, st.2.extBut b.extBut hne⟩ b
  done := fun s Q E st hE => et_last hh st.1 st.2 (by simp) hE
theorem et_new (l : Addr) (us : Array Value) (n : Nat) (dct : Option Addr) (sl : Array (Option Value)) :
    Meets (Builtin.«enumerate.__new__» ⟨[.type "enumerate", .ref l], []⟩) (fun _ R s => s.heap.get? l = some { cls := .type "tuple", dict := dct, data := .seq us n, slots := sl } ∧
      R (.ok (.ret (.ref (s.heap.push { cls := .type "tuple_iterator", data := .fields #[.ref l, .int 0 0] }).objs.size)))
        { s with heap := (s.heap.push { cls := .type "tuple_iterator", data := .fields #[.ref l, .int 0 0] }).push { cls := .type "enumerate", data := .fields #[.none, .bool false, .ref s.heap.objs.size, rawInt 0, .none, .none] } }) :=
  .of_wp fun prog w A R s h => by
    obtain ⟨hp, g, d, tk, os⟩ := s; obtain ⟨hl, h⟩ := h
    have hs := sub_enumerate
    have hT : Heap.IsTuple (Shared.heap ⟨hp, g, d, tk, os⟩) l us := ⟨_, hl, rfl, n, rfl⟩
    wp_walk using AutoSeq1.wpAny_loadPart' hl
    refine wpAny_stack_any fun st => wpAny_pure ?_
    split
    · rename_i c _ _ _ _ _
      cases (c == Value.type "enumerate") <;> (wp_walk using AutoSeq1.wpAny_loadPart' hl, wpAny_pyIter_tuple hT; exact ⟨_, rfl, h⟩)
    · wp_walk using AutoSeq1.wpAny_loadPart' hl, wpAny_pyIter_tuple hT
      exact ⟨_, rfl, h⟩
section
variable {prog : Program} {w : World} {A : Around} {E : Value → Shared → Prop} {s : Shared}
theorem et_call {l : Addr} {us : Array Value} {Q : Value → Shared → Prop} (hT : s.heap.IsTuple l us)
    (h : ∀ g, IsEnum g (s.heap.objs.size + 1) s.heap.objs.size 0 .none → g.IsTupleIter s.heap.objs.size l 0 → g.objs.size = s.heap.objs.size + 2 → (∀ b o, s.heap.get? b = some o → g.get? b = some o) → Q (.ref (s.heap.objs.size + 1)) { s with heap := g }) :
    wpAny (model prog w) A (call (.type "enumerate") [.ref l]) Q E s := by
  obtain ⟨⟨c, dct, dt, sl⟩, hl, hc, n, hd⟩ := hT
  replace hc : c = .type "tuple" := hc
  replace hd : dt = .seq us n := hd
  subst hc hd
  refine callType_new F.called_enumerate (by decide) (F.typeCall_enumerate_1 _) (F.newCall_enumerate_1 _) (fun obj => F.args_object_init_2 obj _) F.entry_enumerate_new (et_new l us n dct sl) ⟨hl, ?_⟩
  have hz : (s.heap.push { cls := .type "tuple_iterator", data := .fields #[.ref l, .int 0 0] }).objs.size = s.heap.objs.size + 1 := Heap.size_push ..
  show _ ∧ (_)
  rw [hz]
  have he : IsEnum ((s.heap.push { cls := .type "tuple_iterator", data := .fields #[.ref l, .int 0 0] }).push { cls := .type "enumerate", data := .fields #[.none, .bool false, .ref s.heap.objs.size, rawInt 0, .none, .none] }) (s.heap.objs.size + 1) s.heap.objs.size 0 .none := by
    have q := Heap.get?_push_size (s.heap.push { cls := .type "tuple_iterator", data := .fields #[.ref l, .int 0 0] }) (o := { cls := .type "enumerate", data := .fields #[.none, .bool false, .ref s.heap.objs.size, rawInt 0, .none, .none] }) rfl
    rw [hz] at q
    exact q
  exact ⟨⟨_, he, rfl⟩, h _ he ⟨_, Heap.get?_push_of_some _ (Heap.get?_push_size _ rfl), rfl, rfl⟩ (by rw [Heap.size_push, hz]) fun b o x => Heap.get?_push_of_some _ (Heap.get?_push_of_some _ x)⟩
theorem et_done {e z t : Addr} {i : Nat} {us : Array Value} {old : Value} {Q : Option Value → Shared → Prop} (hh : A.handled = none) (he : IsEnum s.heap e z i old) (hz : s.heap.IsTupleIter z t i) (hT : s.heap.IsTuple t us) (hx : us[i]? = none)
    (hQ : ∀ g, Heap.ExtBut z s.heap g → Q none { s with heap := g }) : wpAny (model prog w) A (pyNext (.ref e)) Q E s := by
  have hY : s.TypeIs (.ref e) "enumerate" := ⟨_, he, rfl⟩
  unfold pyNext
  refine wpAny_bind (wpAny_attempt (wpAny_callSpecial?_slot (name := Str.ofString "__next__") hY F.slot_enumerate_next (wpAny_call_entry F.slot_enumerate_next hY F.entry_enumerate_next ?_ (F.args_enumerate_next_1 _))))
  show wpAny _ _ (field (.ref e) 2 >>= fun r => _) _ _ _
  refine wpAny_bind (wpAny_field he rfl (x := .ref z) rfl ?_)
  refine wpAny_bind (et_last hh hz hT hx fun g x a b => ?_)
  obtain ⟨o, ho, hc⟩ := b
  refine wpAny_bind (wpAny_isInstance (T := "StopIteration") (b := true) ⟨o, ho, hc⟩ isSubtype_stop (?_))
  exact wpAny_pure (hQ _ a)
end
end PySem

namespace LL
open PySem L2 PySem.Spec PyProof.Rows
/-- the tuple at a, each item in a new pair with its place -/
def IteT (K : PySem.W.Frag) (a : Addr) : It :=
  ⟨fun i H => ∃ (xs : List V) (x : V), SqT K H a xs ∧ xs[i]? = some x, fun i H v H' => ∃ T x, v = .ref T ∧ H T = none ∧ H' = upd H T (.tup [.int (i : Nat), x]) ∧ ∀ xs, SqT K H a xs → xs[i]? = some x, fun i H => ∃ xs : List V, SqT K H a xs ∧ xs.length ≤ i⟩
theorem et_turn {P : Program} {w : World} {K : PySem.W.Frag} {elts : List Expr} {kk : Nat} {tpos : Pos} (a e it : Addr) :
    Turn P w K (.Tuple elts kk tpos) (IteT K a) [e, it] e (fun i h => (∃ old, IsEnum h e it ((i : Nat) : Int) old) ∧ h.IsTupleIter it a i ∧ e ≠ it ∧ a ≠ it ∧ a ≠ e) where
  mem := by simp
  obj := fun i h st b hb => by
    obtain ⟨⟨old, q⟩, ⟨o, ho, hc, hd⟩, _⟩ := st
    rcases (by simpa using hb : b = e ∨ b = it) with z | z
    · rw [z]; exact ⟨_, q, fun v y => nomatch y⟩
    · rw [z]; exact ⟨o, ho, fun v y => by rw [hd] at y; cases y⟩
  keep := fun i h h' st k => let ⟨⟨old, q⟩, hi, hne⟩ := st; ⟨⟨old, k e (by simp) _ q⟩, hi.at fun o y => k it (by simp) o y, hne⟩
  item := by
    intro X e1 e2 e3 hc i pins s σ H E I hf st hg
    subst e1 e2 e3
    obtain ⟨⟨old, he⟩, hit, hne, hai, hae⟩ := st
    obtain ⟨xs, x, hq, hx⟩ := hg
    obtain ⟨its, rv, p, hz⟩ := I.tuple hq
    obtain ⟨u, hu, ru⟩ := rv.get hx
    have hel : e < s.heap.objs.size := Heap.lt_size he
    have hil : it < s.heap.objs.size := by obtain ⟨_, q, _⟩ := hit; exact Heap.lt_size q
    have hd := I.ok.hd hc
    have hu' : its.toArray[i]? = some u := by simpa using hu
    have hlt : i < its.toArray.size := (Array.getElem?_eq_some_iff.mp hu').1
    refine wpAny_pyNext_enum_itemD (et_draws (A := X.A.in1) hd it a hai its.toArray) he ⟨hit, p⟩ hlt hne (by simp; exact ⟨hne, hae.symm⟩) fun y h' tk hy ho hst hT hsz hk => ?_
    obtain ⟨hit', _⟩ := hst
    rw [hu'] at hy
    cases hy
    refine ⟨_, rfl, wpAny_letOwnedTupleGo_enum (s := { s with heap := h', toks := tk + 1 }) ho fun h'' he' sb => ?_⟩
    have hT2 : h''.get? s.heap.objs.size = some { cls := .type "tuple", data := .seq #[.int i tk, u] } := (sb.2 _ (Nat.ne_of_gt hel)).trans hT
    have new : ObjOk X.prog X.w (upd H s.heap.objs.size (.tup [.int (i : Nat), x])) h'' s.heap.objs.size (.tup [.int (i : Nat), x]) := ⟨by show 2 ≤ sizeLine; decide, [.int i tk, u], .cons ⟨_, rfl⟩ (.cons ru .nil), ⟨_, hT2, rfl, _, rfl⟩⟩
    have I1 : Inv X pins σ (upd H s.heap.objs.size (.tup [.int (i : Nat), x])) { s with heap := h'', toks := tk + 1 } :=
      I.turnedNew (ch := [e, it]) (fun b ob hb q => (sb.2 b fun z => hb (by simp [z])).trans (hk b ob (fun z => hb (by simp [z])) (fun z => hb (by simp [z])) q)) hf (Nat.le_refl _) new
    refine ⟨.ref s.heap.objs.size, _, I1, rfl, ⟨_, x, rfl, I.hok.fresh (Nat.le_refl _), rfl, fun ys hy => by rw [I.tuple_inj hy hq]; exact hx⟩, ⟨⟨u, ?_⟩, hit'.at fun o q => (sb.2 it (Ne.symm hne)).trans q, hne, hai, hae⟩, fun b hb => ?_⟩
    · rw [show ((i + 1 : Nat) : Int) = (i : Int) + 1 by omega]
      exact he'
    · have hb' : b < s.heap.objs.size := by
        rcases (by simpa using hb : b = e ∨ b = it) with z | z
        · rw [z]; exact hel
        · rw [z]; exact hil
      rw [upd_ne (Nat.ne_of_lt hb')]
      exact (hf b hb).1
  done := by
    intro X e1 e2 e3 hc i pins s σ H E I hf st hg
    subst e1 e2 e3
    obtain ⟨⟨old, he⟩, hit, hne, hai, hae⟩ := st
    obtain ⟨xs, hq, hx⟩ := hg
    obtain ⟨its, rv, p, hz⟩ := I.tuple hq
    obtain ⟨f0, f1, f2, f3, f4, f5⟩ := hf it (by simp)
    have hl := rv.length
    have hd := I.ok.hd hc
    exact et_done hd he hit p (by simp; omega) fun h' eb => ⟨rfl, I.turned (t' := s.toks) (fun b o hb q => eb b o hb q) f0 f1 f3 f4 f5⟩
  self := fun A i s Q E st h => let ⟨⟨_, he⟩, _⟩ := st; wpAny_pyIter_enum he h
def iEnumT (K : PySem.W.Frag) (ta : TA) : TI := fun σ H R => ta σ H fun vs H1 => ∃ a xs, vs = [.ref a] ∧ SqT K H1 a xs ∧ R (IteT K a) H1
theorem pi_enumT {X : Cx} {e : Expr} {ta : TA} {p pos tpos : Pos} {elts : List Expr} {kk : Nat} (hg : Gl X "enumerate") (hm : X.mg "enumerate" = none) (ha : PA X [e] ta) (hs : starEach [e] X.env = [(false, eval e X.env)] := by rfl) :
    PI X (.Tuple elts kk tpos) (.Call (.Name "enumerate" p) [e] [] pos) (iEnumT X.K ta) := by
  refine ⟨fun pins s σ H R I h => ?_⟩
  refine Call_ (ld_blt I hg hm boot_enumerate (PyProof.Rows.callWith_type1 (thn (ha.run pos pins s σ H _ I h) fun us s1 ⟨vs, H1, I1, r1, a, xs, ex, hq, q⟩ => ?_) hs rfl))
  subst ex
  obtain ⟨u, rfl, ru⟩ := vals1 r1
  cases ru
  obtain ⟨its, rv, pT, hz⟩ := I1.tuple hq
  have hlt : a < s1.heap.objs.size := by obtain ⟨_, y, _⟩ := id pT; exact Heap.lt_size y
  refine et_call (show s1.heap.IsTuple a its.toArray from pT) fun h' he hit hsz hk => wpAny_pyIter_enum he ?_
  have I2 : Inv X pins σ H1 { s1 with heap := h' } := I1.kept (t' := s1.toks) hk
  refine ⟨s1.heap.objs.size + 1, [s1.heap.objs.size + 1, s1.heap.objs.size], _, _, H1, rfl, I2, et_turn a (s1.heap.objs.size + 1) s1.heap.objs.size, ⟨⟨.none, he⟩, hit, Nat.succ_ne_self _, Nat.ne_of_lt hlt, Nat.ne_of_lt (Nat.lt_succ_of_lt hlt)⟩, fun b hb => ?_, q⟩
  have hle : s1.heap.objs.size ≤ b := by
    rcases (by simpa using hb : b = s1.heap.objs.size + 1 ∨ b = s1.heap.objs.size) with z | z
    · rw [z]; exact Nat.le_add_right _ _
    · rw [z]; exact Nat.le_refl _
  exact I1.fpOk hle (I1.hok.fresh hle)
section
variable {K : PySem.W.Frag}
def dIEnumT (da : DTA) : DTI := fun ρ μ P => da ρ μ fun xs μ1 => ∃ ds, xs = [.tup ds] ∧ P (enD 0 ds) (fun _ => True) μ1
theorem walkET {I : Hp} {p : Addr} {vs : List V} {ds : List Da} {G : Mu → Prop} (a : AtAll K I vs ds) (h : SqT K I p vs) : WalkD K I (IteT K p) (enD 0 ds) G := by
  have h' : ∀ I1 H μ, Same I I1 → StR K H I1 μ → SqT K H p vs := fun I1 H μ s st => same_T st.same (same_T s h)
  refine ⟨fun I1 H μ s st g i hi => ?_, fun I1 H μ s st g => ⟨vs, h' _ _ _ s st, by rw [enD_length, a.length]; exact Nat.le_refl _⟩, fun I1 H μ s st g i x H' d hd y => ?_⟩
  · rw [enD_length, ← a.length] at hi
    exact ⟨vs, vs[i], h' _ _ _ s st, List.getElem?_eq_getElem hi⟩
  · obtain ⟨d', e1, rfl⟩ := enD_get hd
    obtain ⟨T, x', rfl, hT, rfl, e4⟩ := y
    obtain ⟨d2, e5, a2⟩ := a.get (e4 vs (h' _ _ _ s st))
    rw [e1] at e5
    cases e5
    refine ⟨upd I1 T _, same_new (st.noI hT), st.new hT, .tup (SqT.of upd_same) ?_⟩
    rw [Nat.zero_add]
    exact .cons (.v _) (.cons ((a2.to s).to (same_new (st.noI hT))) .nil)
instance {ta : TA} {da} [A : SoA K ta da] : SoI K (iEnumT K ta) (dIEnumT da) := ⟨fun h _ _ _ _ he st k => A.run h he st fun us xs I1 H1 μ1 s1 st1 a1 ⟨ds, e, p⟩ => by
  subst e
  obtain ⟨u, rfl, a⟩ := a1.one
  obtain ⟨q, vs, rfl, h1, h2⟩ := a.tupd
  exact ⟨q, vs, rfl, same_T st1.same h1, k _ _ _ I1 H1 μ1 s1 st1 (walkET h2 h1) p⟩⟩
end
end LL

namespace LL
open PySem L2 PySem.Spec PyProof.Rows
/-! ### data that are equal to themselves, that are told -/
/-- data that may be compared, at most n deep -/
def Eqd (n : Nat) (x : Da) : Prop := ∃ e, x.py = some e ∧ e.canLay0 = true ∧ e.depth ≤ n
/-- data that may be told, in at most m signs -/
def Tld (n m : Nat) (x : Da) : Prop := ∃ e, x.py = some e ∧ tame e = true ∧ e.depth ≤ n ∧ wt e ≤ m
theorem eqd_i {i : Int} : Eqd 0 (.i i) := ⟨.int i, rfl, rfl, Nat.le_refl _⟩
theorem eqd_n : Eqd 0 .n := ⟨.none, rfl, rfl, Nat.le_refl _⟩
theorem eqd_b {b : Bool} : Eqd 0 (.b b) := ⟨.bool b, rfl, rfl, Nat.le_refl _⟩
theorem eqd_s {x : Str} (h : PyData.canLay0 (.str x) = true) : Eqd 0 (.s x) := ⟨.str x, rfl, h, Nat.le_refl _⟩
theorem Eqd.mono {n m : Nat} {x : Da} (h : Eqd n x) (l : n ≤ m) : Eqd m x := let ⟨e, a, b, c⟩ := h; ⟨e, a, b, Nat.le_trans c l⟩
theorem Tld.mono {n m n' m' : Nat} {x : Da} (h : Tld n m x) (l : n ≤ n') (l' : m ≤ m') : Tld n' m' x := let ⟨e, a, b, c, d⟩ := h; ⟨e, a, b, Nat.le_trans c l, Nat.le_trans d l'⟩
theorem eqd_all {n : Nat} : ∀ {ds : List Da}, (∀ d ∈ ds, Eqd n d) → ∃ es, pyAll ds = some es ∧ PyData.canLayAll0 es = true ∧ PyData.depthAll es ≤ n
  | [], _ => ⟨[], rfl, rfl, Nat.zero_le _⟩
  | d :: ds, h => by
    obtain ⟨e, h1, h2, h3⟩ := h d List.mem_cons_self
    obtain ⟨es, k1, k2, k3⟩ := eqd_all fun x hx => h x (List.mem_cons_of_mem _ hx)
    refine ⟨e :: es, ?_, ?_, Nat.max_le.mpr ⟨h3, k3⟩⟩
    · unfold pyAll
      rw [h1, k1]
    · show (e.canLay0 && PyData.canLayAll0 es) = true
      rw [h2, k2]
      rfl
theorem eqd_l {n : Nat} {ds : List Da} (h : ∀ d ∈ ds, Eqd n d) : Eqd (n + 1) (.lst ds) := by
  obtain ⟨es, k1, k2, k3⟩ := eqd_all h
  refine ⟨.list es, ?_, k2, Nat.succ_le_succ k3⟩
  show (pyAll ds).map PyData.list = _
  rw [k1]
  rfl
theorem eqd_t {n : Nat} {ds : List Da} (h : ∀ d ∈ ds, Eqd n d) : Eqd (n + 1) (.tup ds) := by
  obtain ⟨es, k1, k2, k3⟩ := eqd_all h
  refine ⟨.tuple es, ?_, k2, Nat.succ_le_succ k3⟩
  show (pyAll ds).map PyData.tuple = _
  rw [k1]
  rfl
theorem tld_all {n m : Nat} : ∀ {ds : List Da}, (∀ d ∈ ds, Tld n m d) → ∃ es, pyAll ds = some es ∧ tameAll es = true ∧ PyData.depthAll es ≤ n ∧ wtAll es ≤ (m + 2) * ds.length
  | [], _ => ⟨[], rfl, rfl, Nat.zero_le _, Nat.zero_le _⟩
  | d :: ds, h => by
    obtain ⟨e, h1, h2, h3, h4⟩ := h d List.mem_cons_self
    obtain ⟨es, k1, k2, k3, k4⟩ := tld_all fun x hx => h x (List.mem_cons_of_mem _ hx)
    refine ⟨e :: es, ?_, ?_, Nat.max_le.mpr ⟨h3, k3⟩, ?_⟩
    · unfold pyAll
      rw [h1, k1]
    · show (tame e && tameAll es) = true
      rw [h2, k2]
      rfl
    · show wt e + 2 + wtAll es ≤ (m + 2) * (ds.length + 1)
      rw [Nat.mul_succ]
      omega
theorem tld_l {n m : Nat} {ds : List Da} (h : ∀ d ∈ ds, Tld n m d) : Tld (n + 1) ((m + 2) * ds.length + 2) (.lst ds) := by
  obtain ⟨es, k1, k2, k3, k4⟩ := tld_all h
  refine ⟨.list es, ?_, k2, Nat.succ_le_succ k3, Nat.add_le_add_right k4 2⟩
  show (pyAll ds).map PyData.list = _
  rw [k1]
  rfl
theorem tld_t {n m : Nat} {ds : List Da} (h : ∀ d ∈ ds, Tld n m d) : Tld (n + 1) ((m + 2) * ds.length + 3) (.tup ds) := by
  obtain ⟨es, k1, k2, k3, k4⟩ := tld_all h
  refine ⟨.tuple es, ?_, k2, Nat.succ_le_succ k3, Nat.add_le_add_right k4 3⟩
  show (pyAll ds).map PyData.tuple = _
  rw [k1]
  rfl
theorem tld_i {i : Int} (h : i.natAbs < 10 ^ 40) : Tld 0 45 (.i i) := ⟨.int i, rfl, decide_eq_true h, Nat.le_refl _, Nat.le_refl _⟩
theorem tld_n : Tld 0 45 .n := ⟨.none, rfl, rfl, Nat.le_refl _, Nat.le_refl _⟩
theorem tld_b {b : Bool} : Tld 0 45 (.b b) := ⟨.bool b, rfl, rfl, Nat.le_refl _, Nat.le_refl _⟩
theorem tld_s {x : Str} (h : (reprText x).length ≤ 40) : Tld 0 45 (.s x) := ⟨.str x, rfl, decide_eq_true h, Nat.le_refl _, Nat.le_refl _⟩
theorem shaped_of {d : PyData} (h1 : d.canLay0 = true) (h2 : d.depth ≤ 64) : SeqAt.shaped d = true := by
  show (d.canLay0 && decide (d.depth ≤ 64)) = true
  rw [h1, decide_eq_true h2]
  rfl
/-- x == x, x != x -/
theorem eqD_same {n : Nat} {g : Bool → Bool} {x : Da} {μ : Mu} {P : DP} (h : Eqd n x) (hn : n ≤ 60) (p : P (.b (g true)) μ) : dEqD g x x μ P := by
  obtain ⟨e, a, b, c⟩ := h
  refine ⟨e, e, a, a, shaped_of b (by omega), shaped_of b (by omega), ?_⟩
  rw [SeqAt.eqv_refl e b]
  exact p
theorem eqD_eq {n : Nat} {g : Bool → Bool} {x y : Da} {μ : Mu} {P : DP} (e : x = y) (h : Eqd n y) (hn : n ≤ 60) (p : P (.b (g true)) μ) : dEqD g x y μ P := by
  subst e
  exact eqD_same h hn p
/-- the text of data -/
def txD (x : Da) : Str := match x.py with
  | some e => e.shown
  | none => Str.empty
theorem reprD_of {n m : Nat} {x : Da} {μ : Mu} {P : DP} (nv : ∀ v, x ≠ .v v) (h : Tld n m x) (hn : n ≤ 60) (hm : m ≤ 16000000) (p : P (.s (txD x)) μ) : dReprD [x] μ P := by
  obtain ⟨e, a, b, c, d⟩ := h
  obtain ⟨q1, q2, q3⟩ := told b
  refine ⟨x, e, rfl, nv, a, q2, q3, Nat.le_trans c hn, ?_, ?_⟩
  · exact Nat.le_trans (Nat.le_trans q1 d) (Nat.le_trans hm (by decide))
  · unfold txD at p
    rw [a] at p
    exact p
theorem reprD_l {n m : Nat} {ds : List Da} {μ : Mu} {P : DP} (h : Tld n m (.lst ds)) (hn : n ≤ 60) (hm : m ≤ 16000000) (p : P (.s (txD (.lst ds))) μ) : dReprD [.lst ds] μ P := reprD_of (fun v z => by cases z) h hn hm p
/-! ### == of instances, by an own __eq__ that tells True -/
section
variable {K : PySem.W.Frag}
def REq (K : PySem.W.Frag) (C : Addr) (ok : List Str → List Da → Prop) : Addr → Addr → Hp → Prop := fun a b H => ∃ I ns ds, Same I H ∧ At K I (.ref a) (.obj C ns ds) ∧ At K I (.ref b) (.obj C ns ds) ∧ ok ns ds
def dspEq (C : Addr) (ok : List Str → List Da → Prop) : DSp := fun xs μ P => ∃ ns ds, xs = [.obj C ns ds, .obj C ns ds] ∧ ok ns ds ∧ P (.b true) μ
theorem spEq_of {C : Addr} {ok : List Str → List Da → Prop} {vs : List V} {H : Hp} {Q : VK} {E : XK} (h : spEq (REq K C ok) vs H Q E) : spD K (dspEq C ok) vs H Q E := by
  obtain ⟨a, b, rfl, ⟨I, ns, ds, s, h1, h2, o⟩, q⟩ := h
  refine ⟨H, fun _ => none, [.obj C ns ds, .obj C ns ds], fun d _ => d = .b true, ⟨Same.refl _, fun _ _ e => by cases e⟩, .cons (h1.to s) (.cons (h2.to s) .nil), ⟨ns, ds, rfl, o, rfl⟩, fun v d I' H' μ' s' st' a' e => ?_⟩
  subst e
  rw [a'.val]
  exact q H' fun b o e => st'.same _ _ (s' _ _ e)
def dEqO (C : Addr) (ok : List Str → List Da → Prop) : DR2 := fun x y μ P => ∃ ns ds, x = .obj C ns ds ∧ y = .obj C ns ds ∧ ok ns ds ∧ P (.b true) μ
instance {C : Addr} {ok : List Str → List Da → Prop} : SoR K (rEqG (DIns C (REq K C ok))) (dEqO C ok) := ⟨fun ⟨ns, ds, e1, e2, o, p⟩ _ _ _ _ _ st a b k => by
  subst e1 e2
  have a0 := a
  have b0 := b
  cases a with | obj p1 p2 p3 => cases b with | obj q1 q2 q3 =>
  exact ⟨⟨_, _, _, _, _, _, rfl, rfl, st.same _ _ p1, st.same _ _ q1, _, ns, ds, st.same, a0, b0, o⟩, fun H' ex => k _ _ _ _ _ (Same.refl _) (st.ext fun b o e => ex b o e) (.v _) p⟩⟩
end
end LL
namespace LL
open PySem L2 PySem.Spec PyProof.Rows
section
variable {K : PySem.W.Frag}
/-- truth -/
inductive TruD (μ : Mu) : Da → Bool → Prop where
  | n : TruD μ .n false
  | i (i : Int) : TruD μ (.i i) (i != 0)
  | b (c : Bool) : TruD μ (.b c) c
  | l {x : Da} {ds : List Da} : Lst μ x ds → TruD μ x (!ds.isEmpty)
  | t (ds : List Da) : TruD μ (.tup ds) (!ds.isEmpty)
theorem AtAll.empty {I : Hp} {vs : List V} {ds : List Da} (h : AtAll K I vs ds) : vs.isEmpty = ds.isEmpty := by cases h <;> rfl
theorem TruD.to {μ : Mu} {x : Da} {k : Bool} {H I : Hp} {u : V} (h : TruD μ x k) (st : StR K H I μ) (a : At K I u x) : TruV K u H k := by
  cases h with
  | n => rw [a.val]; exact rfl
  | i i => rw [a.val]; exact rfl
  | b c => rw [a.val]; exact rfl
  | l l => obtain ⟨p, vs, rfl, h1, h2⟩ := l.at_ st a; exact .inl ⟨vs, h1, by rw [h2.empty]⟩
  | t ds => obtain ⟨p, vs, rfl, h1, h2⟩ := a.tupd; exact .inr (.inl ⟨vs, same_T st.same h1, by rw [h2.empty]⟩)
def dTruth (da : DTE) : DTT := fun ρ μ P => da ρ μ fun x μ1 => ∃ k, TruD μ1 x k ∧ P k μ1
instance {ta : TE} {da} [A : SoE K ta da] : SoT K (fun σ H Q => ta σ H fun x H' => ∃ k, TruV K x H' k ∧ Q k H') (dTruth da) := ⟨fun h _ _ _ _ he st k => A.run h he st fun u x I1 H1 μ1 s1 st1 a1 ⟨b, t, p⟩ => ⟨b, t.to st1 a1, k b I1 H1 μ1 s1 st1 p⟩⟩
end
end LL

set_option synthInstance.maxSize 100000
set_option synthInstance.maxHeartbeats 4000000
namespace LL
open PySem L2 PySem.Spec PyProof.Rows
/-! ### an instance called by one name -/
theorem callN_of {M : Model} {A : Around} {E : Value → Shared → Prop} {s : Shared} {a : Addr} {pos : Pos} {Q : Value → Shared → Prop} {ps : List (Bool × Sem Value)} {ks : List (Option Str × Sem Value)} (hpl : (ps.any (·.1) || ks.any (·.1.isNone)) = false)
    (h : wpAny M A (evalArgs (.ref a) true ps ks) (fun z s₁ => (∃ C ox od, PySem.W.InstAt s₁.heap a ox C od ∧ ox.data = .plain) ∧ wpAny M A (call (.ref a) ([] ++ z.pos) z.kw) Q E s₁) E s) : wpAny M A (callWith pos (.ref a) [] ps ks) Q E s := by
  unfold callWith
  refine wpAny_bind (wpAny_holding (wpAny_mono h (fun z s₁ h₁ => wpAny_bind (wpAny_standAt ?_)) fun _ _ y => y))
  obtain ⟨⟨C, ox, od, J, hd⟩, q⟩ := h₁
  have kp := PySem.W.kco_keeper (M := M) J hd
  simp only [hpl]
  refine wpAny_bind (kp.here ?_)
  exact wpAny_bind (wpAny_mono (wpAny_operateT q) (fun r s₂ hr => wpAny_bind (wpAny_holding (wpAny_point (wpAny_pure hr)))) fun _ _ y => y)
theorem CallN_ {M : Model} {A : Around} {E : Value → Shared → Prop} {s : Shared} {env : Env} {func : Expr} {kws : List Keyword} {pos : Pos} {Q : Value → Shared → Prop}
    (h : wpAny M A (eval func env) (fun f s₁ => wpAny M A (callWith pos f [] (backTo pos (starEach [] env)) (backToKw pos (keywordEach kws env))) Q E s₁) E s)
    (he : eval (.Call func [] kws pos) env = (do callWith pos (← eval func env) [] (backTo pos (starEach [] env)) (backToKw pos (keywordEach kws env)))) :
    wpAny M A (eval (.Call func [] kws pos) env) Q E s := by
  rw [he]; exact wpAny_bind h
theorem run_callN {X : Cx} {k : Nat} {nm : Str} {sp : Sp} {C f a : Addr} {fd : FuncData} {pins : List (Addr × Obj)} {σ : L2.St} {H : Hp} {s : Shared} {Q : VK} {zs : List V} {ws : List Value} (c : StX.CallO X.K C f) (F : FnOk X.prog X.w X.K X.mg X.base C8.CX0 k f fd ["self", nm] sp) (hr : Room k X.A)
    (hb : ∀ (s : Shared) (x u : Value), X.K.In s.heap → BindsTo s fd ⟨[x], [(nm, u)]⟩ ((["self", nm] : List Str).zip [x, u])) (I : Inv X pins σ H s) (hi : StX.InsC X H a C) (r : Vals zs ws) (h : sp (V.ref a :: zs) H Q C8.E0) :
    wpAny (model X.prog X.w) X.A (call (.ref a) [] (([nm] : List Str).zip ws)) (EP X pins σ Q) X.xe s := by
  obtain ⟨ox, od, J, hd⟩ := StX.insC_at I hi
  have hl := F.len _ _ _ _ h
  cases r with
  | nil => cases hl
  | @cons z u zs ws r0 rs =>
    cases rs with
    | cons r1 rs => simp at hl
    | nil =>
      refine wpAny_call (PySem.W.kco_code I.kIn J hd c.at_ c.fn c.fi ?_)
      refine codeAny_mono (F.run X.A X.stack s H ⟨[.ref a], [(nm, u)]⟩ [.ref a, u] [V.ref a, z] Q C8.E0 hr I.env0 (hb s (.ref a) u I.kIn) (.cons rfl (.cons r0 .nil)) h) fun r s' hq => ?_
      cases r with
      | error e => exact (C8.pass0 (X := X) (E := C8.E0)) pins σ H s e s' I hq
      | ok fl =>
        cases fl with
        | ret u => exact I.after hq
        | next => exact False.elim hq
        | brk => exact False.elim hq
        | cont => exact False.elim hq
theorem pe_callN {X : Cx} {k : Nat} {nm : Str} {sp : Sp} {C f : Addr} {fd : FuncData} {fe : Expr} {tf : TE} {tk : TA} {pos : Pos} {kws : List Keyword} (hf : PE X fe tf) (c : StX.CallO X.K C f) (F : FnOk X.prog X.w X.K X.mg X.base C8.CX0 k f fd ["self", nm] sp) (hr : Room k X.A)
    (hb : ∀ (s : Shared) (x u : Value), X.K.In s.heap → BindsTo s fd ⟨[x], [(nm, u)]⟩ ((["self", nm] : List Str).zip [x, u])) (hkw : PK X kws tk)
    (hall : (backToKw pos (keywordEach kws X.env)).all (·.1.isSome) = true := by rfl) (hks : (backToKw pos (keywordEach kws X.env)).filterMap (·.1) = [nm] := by rfl)
    (ht : eval (.Call fe [] kws pos) X.env = (do callWith pos (← eval fe X.env) [] (backTo pos (starEach [] X.env)) (backToKw pos (keywordEach kws X.env))) := by rfl)
    (hpl : ((backTo pos (starEach [] X.env)).any (·.1) || (backToKw pos (keywordEach kws X.env)).any (·.1.isNone)) = false := by rfl) :
    PE X (.Call fe [] kws pos) (StX.tCallO X C sp C8.E0 tf tk) := by
  refine ⟨fun pins s σ H Q I h => ?_⟩
  refine CallN_ (thn (hf.run pins s σ H _ I h) fun u s1 ⟨y, H1, I1, ry, a, ey, q⟩ => ?_) ht
  subst ey
  obtain rfl : u = Value.ref a := ry
  refine callN_of hpl (evalArgs_kw2_nil hall (thn (hkw.run pos pins s1 σ H1 _ I1 q) fun ws s2 ⟨zs, H2, I2, rz, hi, q2⟩ => ?_))
  obtain ⟨ox, od, J, hd⟩ := StX.insC_at I2 hi
  refine ⟨⟨C, ox, od, J, hd⟩, ?_⟩
  rw [hks]
  exact run_callN c F hr hb I2 hi rz q2
/-! ### calls by names, read -/
def dCallK2 (dsp : DSp) (da : DTA) : DTE := fun ρ μ P => da ρ μ fun ds μ1 => ∃ x y, ds = [x, y] ∧ dsp [y, x] μ1 P
class Two (gV : List V → List V → List V) : Prop where
  rot : ∀ x y : V, gV [] [x, y] = [y, x]
instance {K : PySem.W.Frag} {dsp : DSp} {gV : List V → List V → List V} {tk : TA} {da} [A : SoA K tk da] [g : Two gV] : SoE K (tCallK0 (spD K dsp) gV tk) (dCallK2 dsp da) := ⟨fun h _ _ _ _ he st k => A.run h he st fun vs ds I1 H1 μ1 s1 st1 a1 ⟨x, y, e, p⟩ => by
  subst e
  obtain ⟨u, v, rfl, a, b⟩ := a1.two
  show spD K dsp (gV [] [u, v]) _ _ _
  rw [g.rot]
  exact ⟨I1, μ1, [y, x], _, st1, .cons b (.cons a .nil), p, CoE.to s1 k⟩⟩
/-! ### a def of the module called without arguments -/
theorem pe_c0 {X : Cx} {k j : Nat} {x : Str} {sp : Sp} {dvs : List V} {p pos : Pos} (c : C8.Cal X.prog X.w X.K X.mg X.base k x sp dvs) (hr : Room j X.A) (hk : k ≤ j) (hg : Gl X x) (hdb : (x == ("__debug__" : Str)) = false := by decide) : PE X (.Call (.Name x p) [] [] pos) (tCall sp dvs C8.E0 tNil) := by
  obtain ⟨f, fd, ps, ds, F, hm, kp, b, d⟩ := c.ex
  exact pe_call0 F (hr.mono hk) hg hm kp b d C8.pass0 hdb
/-! ### repr of data among which cells stand -/
mutual
inductive Res (μ : Mu) : Da → PyData → Prop where
  | py {x : Da} {d : PyData} : x.py = some d → Res μ x d
  | cell {a : Addr} {ds : List Da} {es : List PyData} : μ a = some (.ml ds) → ResAll μ ds es → Res μ (.r a) (.list es)
  | lst {ds : List Da} {es : List PyData} : ResAll μ ds es → Res μ (.lst ds) (.list es)
inductive ResAll (μ : Mu) : List Da → List PyData → Prop where
  | nil : ResAll μ [] []
  | cons {x : Da} {d : PyData} {xs : List Da} {ds : List PyData} : Res μ x d → ResAll μ xs ds → ResAll μ (x :: xs) (d :: ds)
end
mutual
theorem Res.dp {K : PySem.W.Frag} {H I : Hp} {μ : Mu} (st : StR K H I μ) : ∀ {x : Da} {d : PyData} {v : V}, Res μ x d → At K I v x → Dp K H v d
  | _, _, _, .py h, a => a.dp st.same h
  | _, _, v, .cell (a := c) hm h, a => by
    obtain ⟨_, vs, h1, h2⟩ := st.cell c _ hm
    rw [a.val]
    exact .lst (SqL.of h1) (ResAll.dp st h h2)
  | _, _, _, .lst h, a => by
    cases a with | lst h1 h2 => exact .lst (SqL.of (st.same _ _ h1)) (ResAll.dp st h h2)
theorem ResAll.dp {K : PySem.W.Frag} {H I : Hp} {μ : Mu} (st : StR K H I μ) : ∀ {xs : List Da} {ds : List PyData} {vs : List V}, ResAll μ xs ds → AtAll K I vs xs → DpAll K H vs ds
  | _, _, _, .nil, a => by cases a; exact .nil
  | _, _, _, .cons h r, a => by cases a with | cons a1 a2 => exact .cons (Res.dp st h a1) (ResAll.dp st r a2)
end
/-- repr(x), x data, cells among them -/
def dReprM : DRC := fun xs μ P => ∃ ds d, xs = [.lst ds] ∧ Res μ (.lst ds) d ∧ d.showable = true ∧ d.hasDict = false ∧ d.depth ≤ 60 ∧ d.shown.length ≤ sizeLine ∧ P (.s d.shown) μ
instance (priority := 2000) {K : PySem.W.Frag} : SoC K (rRepr K) dReprM := ⟨fun ⟨x, d, e, h1, h2, h3, h4, h5, p⟩ us I H Q st a0 k => by
  subst e
  obtain ⟨u, rfl, a⟩ := a0.one
  have q := h1.dp st a
  cases a with
  | lst a1 a2 => exact ⟨_, d, rfl, q, h2, h3, h4, h5, k _ _ _ _ _ (Same.refl _) st (.v _) p⟩⟩
end LL

set_option synthInstance.maxSize 100000
set_option synthInstance.maxHeartbeats 4000000
namespace LL
open PySem L2 PySem.Spec PyProof.Rows
/-! ### own __len__, own __getitem__ -/
section
variable {X : Cx} {n : Nat} {f C : Addr} {fd : FuncData} {ps : List Str} {sp : Sp}
theorem run_one {pins : List (Addr × Obj)} {σ : L2.St} {H : Hp} {s : Shared} {Q : VK} {us : List Value} {vs : List V} (F : FnOk X.prog X.w X.K X.mg X.base C8.CX0 n f fd ps sp) (rm : Room (n + 1) X.A) (hb : Binds X.K fd ps []) (I : Inv X pins σ H s) (r : Vals vs us)
    (h : sp vs H Q C8.E0) : wpAny (model X.prog X.w) X.A.in1 (call (.ref f) us) (EP X pins σ Q) X.xe s := by
  have hl : us.length = ps.length := by rw [← r.length]; exact F.len _ _ _ _ h
  have hb' := hb s us I.kIn (by rw [List.append_nil]; exact hl)
  rw [List.append_nil] at hb'
  refine wpAny_call (codeAny_mono (F.run X.A.in1 X.stack s H ⟨us, []⟩ us vs Q C8.E0 rm.in1 I.env0.in1 hb' r h) fun r s' hq => ?_)
  cases r with
  | error e => exact (C8.pass0 (X := X) (E := C8.E0)) pins σ H s e s' I hq
  | ok fl =>
    cases fl with
    | ret u => exact I.after hq
    | next => exact False.elim hq
    | brk => exact False.elim hq
    | cont => exact False.elim hq
/-- len(o) -/
def rLenO (C : Addr) (sp : Sp) : List V → Hp → VK → Prop := fun xs H Q => ∃ a dx fs, xs = [V.ref a] ∧ H a = some (.ins C dx fs) ∧ sp [V.ref a] H (fun v H2 => ∃ k : Int, v = .int k ∧ 0 ≤ k ∧ k < 2 ^ 63 ∧ Q (.int k) H2) C8.E0
theorem call_lenO (F : FnOk X.prog X.w X.K X.mg X.base C8.CX0 n f fd ps sp) (rm : Room (n + 1) X.A) (hs : PySem.W.findIn X.K (.ref C) "__len__" = some (some (.ref f))) (hf : PySem.W.isFn X.K (.ref f) = true) (hb : Binds X.K fd ps []) : CallR X (.builtin "len") (rLenO C sp) := by
  intro pins s σ H xs us Q I r ⟨a, dx, fs, e, ha, h⟩
  subst e
  obtain ⟨u, rfl, rx⟩ := vals1 r
  cases rx
  obtain ⟨mA, J, _⟩ := ins_get I.hok ha
  obtain ⟨od, J, _⟩ := J.look
  obtain ⟨m, hF⟩ := I.fr
  refine PySem.W.len_K hF I.ok.mod.kin J hs hf (wpAny_mono (run_one (vs := [V.ref a]) F rm hb I (.cons rfl .nil) h) (fun v s' ⟨x, H2, I2, rv, k, e, h0, h1, q⟩ => ?_) fun _ _ z => z)
  subst e
  obtain ⟨t, rfl⟩ := rv
  exact ⟨⟨h0, h1⟩, .int k, H2, I2.tok _, ⟨_, rfl⟩, q⟩
/-- o[i] -/
def rIxO (C : Addr) (sp : Sp) : R2 := fun x y H Q => ∃ a dx fs, x = V.ref a ∧ H a = some (.ins C dx fs) ∧ sp [V.ref a, y] H Q C8.E0
theorem pe_ixO {a b : Expr} {ta tb : TE} {pos : Pos} (F : FnOk X.prog X.w X.K X.mg X.base C8.CX0 n f fd ps sp) (rm : Room (n + 1) X.A) (hs : PySem.W.findIn X.K (.ref C) "__getitem__" = some (some (.ref f))) (hf : PySem.W.isFn X.K (.ref f) = true) (hn : PySem.W.fnIn X.K f = true) (hb : Binds X.K fd ps [])
    (ha : PE X a ta) (hb2 : PE X b tb) (hsl : ∀ o i, subscripted b true o i = runValue (.builtin "lifetime.subscript" ⟨[o, i], []⟩)) : PE X (.Subscript a b pos) (tOp (rIxO C sp) ta tb) := by
  refine ⟨fun pins s σ H Q I h => ?_⟩
  refine Subscript_ (binT ha hb2 I h fun v u s2 x y H2 I2 rx ry q => ?_)
  obtain ⟨c, dx, fs, e, hc, q⟩ := q
  subst e
  cases rx
  obtain ⟨mA, J, _⟩ := ins_get I2.hok hc
  obtain ⟨od, J, _⟩ := J.look
  obtain ⟨m, hF⟩ := I2.fr
  exact PySem.W.sub_K hF I2.ok.mod.kin J hs hn hf (run_one (vs := [V.ref c, y]) F rm hb I2 (.cons rfl (.cons ry .nil)) q) (hsl _ _)
end
section
variable {K : PySem.W.Frag}
def dLenO (C : Addr) (dsp : DSp) : DRC := fun xs μ P => ∃ x ns ds, xs = [x] ∧ Ins C μ x ns ds ∧ dsp [x] μ fun y μ2 => ∃ k : Int, y = .i k ∧ 0 ≤ k ∧ k < 2 ^ 63 ∧ P (.i k) μ2
instance {C : Addr} {dsp : DSp} : SoC K (rLenO C (spD K dsp)) (dLenO C dsp) := ⟨fun ⟨x, ns, ds, e, hi, p⟩ us I H Q st a0 k => by
  subst e
  obtain ⟨u, rfl, a⟩ := a0.one
  obtain ⟨q, dx, fs, rfl, h1, _⟩ := hi.at_ st a
  refine ⟨q, dx, fs, rfl, h1, I, _, [x], _, st, .cons a .nil, p, fun v y I1 H1 μ1 s1 st1 a1 ⟨z, e, h0, h2, r⟩ => ?_⟩
  subst e
  exact ⟨z, a1.val, h0, h2, k _ _ _ _ _ s1 st1 (.v _) r⟩⟩
def dIxO (C : Addr) (dsp : DSp) : DR2 := fun x y μ P => ∃ ns ds, Ins C μ x ns ds ∧ dsp [x, y] μ P
instance {C : Addr} {dsp : DSp} : SoR K (rIxO C (spD K dsp)) (dIxO C dsp) := ⟨fun ⟨ns, ds, hi, p⟩ _ _ _ _ _ st a b k => by
  obtain ⟨q, dx, fs, rfl, h1, _⟩ := hi.at_ st a
  exact ⟨q, dx, fs, rfl, h1, _, _, [_, _], _, st, .cons a (.cons b .nil), p, k⟩⟩
end
end LL

set_option synthInstance.maxSize 100000
set_option synthInstance.maxHeartbeats 4000000
namespace LL
open PySem L2 PySem.Spec PyProof.Rows
theorem seq_natD {k n : Nat} (h : k < n) : seqIndex? (k : Int) n = some k := by
  unfold seqIndex?
  simp
  omega
theorem AtAll.erase {K : PySem.W.Frag} {I : Hp} : ∀ {vs : List V} {ds : List Da} (k : Nat), AtAll K I vs ds → AtAll K I (vs.eraseIdx k) (ds.eraseIdx k)
  | _, _, _, .nil => by simp; exact .nil
  | _, _, 0, .cons a b => b
  | _, _, k + 1, .cons a b => .cons a (b.erase k)
section
variable {K : PySem.W.Frag}
/-- xs.pop(k) -/
def dPopAt : DRM := fun x ys μ P => ∃ a ds k d, x = .r a ∧ ys = [.i ((k : Nat) : Int)] ∧ μ a = some (.ml ds) ∧ ds[k]? = some d ∧ ds.length < 2 ^ 62 ∧ P d (setM μ a (.ml (ds.eraseIdx k)))
instance : SoMt K rPopAt dPopAt := ⟨fun ⟨a, ds, k, d, e1, e2, h, hd, hz, p⟩ _ _ _ _ _ st u us q => by
  subst e1 e2
  obtain ⟨w, rfl, b⟩ := us.one
  obtain ⟨_, vs, h1, h2⟩ := st.cell a _ h
  obtain ⟨y, hy, ay⟩ := h2.get' hd
  have hk := (List.getElem?_eq_some_iff.mp hd).1
  exact ⟨a, vs, k, k, y, u.val, by rw [b.val], h1, by omega, by omega, by rw [h2.length]; exact seq_natD hk, hy, q _ _ _ _ _ (Same.refl _) (st.put h (c := .ml (ds.eraseIdx k)) ⟨_, rfl, h2.erase k⟩) ay p⟩⟩
/-- xs.index(z), xs ints -/
def dIndex : DRM := fun x ys μ P => ∃ (ns : List Int) (z : Int) (j : Nat), ys = [.i z] ∧ Lst μ x (ns.map Da.i) ∧ ns[j]? = some z ∧ (∀ m, m < j → ns[m]? ≠ some z) ∧ P (.i j) μ
instance : SoMt K (rIndex K) dIndex := ⟨fun ⟨ns, z, j, e, l, hj, hno, p⟩ _ _ _ _ _ st u us q => by
  subst e
  obtain ⟨w, rfl, b⟩ := us.one
  obtain ⟨a, rfl, hS⟩ := l.ints st u
  refine ⟨a, ns.map V.int, .int z, j, .int z, rfl, by rw [b.val], hS, rfl, ?_, by rw [List.getElem?_map, hj]; rfl, ?_, fun m z' hm hz => ?_, q _ _ _ _ _ (Same.refl _) st (.v _) p⟩
  · rw [List.all_map]
    exact List.all_eq_true.mpr fun _ _ => rfl
  · show decide (z = z) = true
    exact decide_eq_true rfl
  · rw [List.getElem?_map] at hz
    cases e : ns[m]? with
    | none => rw [e] at hz; cases hz
    | some y =>
      rw [e] at hz
      cases hz
      show decide (y = z) = false
      exact decide_eq_false fun h => hno m hm (by rw [e, h])⟩
/-- list(range(n)) -/
def dLstRg1 (da : DTE) : DTE := fun ρ μ P => da ρ μ fun x μ1 => ∃ n : Int, x = .i n ∧ 0 ≤ n ∧ n ≤ 1000 ∧ NewL (rgD 0 n.toNat) μ1 P
theorem rg_at {I : Hp} {lo hi : Int} : AtAll K I (rgV lo hi) (rgD lo (hi - lo).toNat) := by
  have e : rgD lo (hi - lo).toNat = (rgV lo hi).map Da.v := by
    unfold rgD rgV
    rw [List.map_map]
    rfl
  rw [e]
  exact AtAll.ofV _
instance {ta : TE} {da} [A : SoE K ta da] : SoE K (tLstRg (tRg1 ta)) (dLstRg1 da) := ⟨fun h _ _ _ _ he st k => A.run h he st fun u x I1 H1 μ1 s1 st1 a1 ⟨n, e, h0, h1, p⟩ => by
  subst e
  refine ⟨n, a1.val, ⟨by omega, by omega, by omega, by omega, by omega⟩, fun q hq => p.run st1 ?_ (CoE.to s1 k) hq⟩
  have z := rg_at (K := K) (I := I1) (lo := 0) (hi := n)
  rw [Int.sub_zero] at z
  exact z⟩
/-- list(range(i, j)) -/
def dLstRg2 (da db : DTE) : DTE := fun ρ μ P => da ρ μ fun x μ1 => db ρ μ1 fun y μ2 => ∃ i j : Int, x = .i i ∧ y = .i j ∧ 0 ≤ i ∧ i ≤ 1000 ∧ 0 ≤ j ∧ j ≤ 1000 ∧ NewL (rgD i (j - i).toNat) μ2 P
instance {ta tb : TE} {da db} [A : SoE K ta da] [B : SoE K tb db] : SoE K (tLstRg (tRg2 ta tb)) (dLstRg2 da db) := ⟨fun h _ _ _ _ he st k => A.run h he st fun u x I1 H1 μ1 s1 st1 a1 h1 => B.run h1 (he.to s1) st1 fun v y I2 H2 μ2 s2 st2 a2 ⟨i, j, e1, e2, h0, h1, h3, h4, p⟩ => by
  subst e1 e2
  exact ⟨i, j, (a1.to s2).val, a2.val, ⟨by omega, by omega, by omega, by omega, by omega⟩, fun q hq => p.run st2 rg_at (CoE.to (s1.trans s2) k) hq⟩⟩
end
end LL

set_option synthInstance.maxSize 100000
set_option synthInstance.maxHeartbeats 4000000
namespace LL
open PySem L2 PySem.Spec PyProof.Rows
/-! ### != of instances: object's own, which asks the own == -/
section
variable {prog : Program} {w : World} {K : PySem.W.Frag} {A : Around} {E : Value → Shared → Prop} {s : Shared} {x y C f : Addr} {ox : Obj} {od : Option Obj} {h₀ : Heap} {L : Addr} {m : Str → Option Value}
theorem ifBoundB {M : Model} {id : String} {name : Str} {args : List Value} {Q : Option Value → Shared → Prop} (X : K.In s.heap) (I : PySem.W.InstAt s.heap x ox C od) (hs : PySem.W.findIn K (.ref C) name = some (some (.builtin id))) (hb : ∀ v : Value, bindSpecial (.builtin id) v = pure (.builtin id, [v]))
    (h : wpAny M A (call (.builtin id) (.ref x :: args)) (fun v => Q (some v)) E s) : wpAny M A (callSpecialIfBound? (.ref x) name args) Q E s := by
  simp only [callSpecialIfBound?, bindSpecialIfBound?]
  refine wpAny_holding (wpAny_bind (wpAny_bind (wpAny_bind (I.type.here ((PySem.W.looks_findIn X hs).here ?_)))))
  refine wpAny_bind (wpAny_askSetting (wpAny_ite ?_))
  simp only [hb]
  have rest : wpAny M A (call (.builtin id) ([.ref x] ++ args) >>= fun v => pure (some v)) Q E s := wpAny_bind (wpAny_mono h (fun v s' q => wpAny_pure q) fun _ _ q => q)
  split
  · exact wpAny_bind (wpAny_pure (wpAny_pure rest))
  · exact wpAny_tryCatch (wpAny_bind (wpAny_pure (wpAny_pure rest)))
theorem ne_entry {Q : Fin → Shared → Prop} (hu1 : A.units < cLine) (X : K.In s.heap) (I : PySem.W.InstAt s.heap x ox C od) (hs : PySem.W.findIn K (.ref C) "__eq__" = some (some (.ref f))) (hf : PySem.W.isFn K (.ref f) = true)
    (h : wpAny (model prog w) A (call (.ref f) [.ref x, .ref y]) (fun v s' => (∃ b, v = .bool b ∧ Q (.done (.ret (.bool (!b)))) s')) E s) : wpAny (model prog w) A (Builtin.«object.__ne__» ⟨[.ref x, .ref y], []⟩) Q E s := by
  unfold Builtin.«object.__ne__»
  have step : wpAny (model prog w) A (callSpecialIfBound? (.ref x) "__eq__" [.ref y]) (fun r s' => ∃ b, r = some (.bool b) ∧ Q (.done (.ret (.bool (!b)))) s') E s :=
    PySem.W.ifBound_K X I hs hf (wpAny_mono h (fun v s' ⟨b, e, q⟩ => ⟨b, by rw [e], q⟩) fun _ _ z => z)
  repeat (first | with_reducible refine wpAny_cRoomFor hu1 ?_ | with_reducible refine (wpAny_bind (wpAny_mono step (fun r s' z => ?_) fun _ _ z => z)) | wp_step)
  obtain ⟨b, rfl, q⟩ := z
  show wpAny (model prog w) A (truthy (.bool b) >>= fun t => ret (.bool (!t))) Q E s'
  repeat wp_step
  exact q
theorem ne_run {Q : Value → Shared → Prop} (hu : A.units < cLine) (hu1 : A.in1.units < cLine) (X : K.In s.heap) (I : PySem.W.InstAt s.heap x ox C od) (hb : PySem.W.Looks (model prog w) s.heap (typeOf (.ref y)) (.ref C))
    (hN : PySem.W.findIn K (.ref C) "__ne__" = some (some (.builtin "object.__ne__"))) (hm : PySem.W.mroIn K C (.type "object") = some true) (hs : PySem.W.findIn K (.ref C) "__eq__" = some (some (.ref f))) (hf : PySem.W.isFn K (.ref f) = true)
    (h : wpAny (model prog w) A.in1 (call (.ref f) [.ref x, .ref y]) (fun v s' => (∃ b, v = .bool b ∧ Q (.bool (!b)) s')) E s) : wpAny (model prog w) A (richCompare .NotEq (.ref x) (.ref y)) Q E s := by
  have SN := PySem.F.cmp_object.ne
  have sub : PySem.W.Looks (model prog w) s.heap (isInstance (.ref x) (.type "object")) true := I.type.andThen (PySem.W.looks_mroIn X hm)
  have one : wpAny (model prog w) A (tryCompare (.ref x) "__ne__" (.ref y)) (fun r s' => ∃ v, r = some v ∧ Q v s') E s := by
    unfold tryCompare
    refine wpAny_bind (ifBoundB X I hN SN.bind (wpAny_call (codeAny_call_builtin SN.plain PySem.F.cmpEntry_ne (PySem.W.check_slot PySem.F.cmpKind_ne PySem.F.cmpSplit_ne sub (PySem.F.cmpArgs_ne _ _) (ne_entry hu1 X I hs hf (wpAny_mono h (fun v s' ⟨b, e, q⟩ => ⟨b, e, ?_⟩) fun _ _ z => z))))))
    exact wpAny_pure ⟨_, rfl, q⟩
  unfold richCompare
  simp only [oneThing_ref]
  refine wpAny_holding (wpAny_bind (wpAny_cRoomFor hu ?_))
  refine wpAny_bind (I.type.here (wpAny_bind (hb.here ?_)))
  rw [if_neg (by simp)]
  refine wpAny_bind (wpAny_pure ?_)
  simp only [Bool.false_eq_true, if_false]
  refine wpAny_bind (wpAny_mono one (fun r s' z => ?_) fun _ _ e => e)
  obtain ⟨v, rfl, hq⟩ := z
  exact wpAny_pure hq
end
section
variable {X : Cx} {n : Nat} {f C : Addr} {fd : FuncData} {ps : List Str} {R : Addr → Addr → Hp → Prop}
def rNeO (C : Addr) (R : Addr → Addr → Hp → Prop) : R2 := fun x y H Q => DIns C R x y H ∧ ∀ H', Ext H H' → Q (.bl false) H'
theorem op_neO (F : FnOk X.prog X.w X.K X.mg X.base C8.CX0 n f fd ps (spEq R)) (rm : Room (n + 1) X.A) (hs : PySem.W.findIn X.K (.ref C) "__eq__" = some (some (.ref f))) (hf : PySem.W.isFn X.K (.ref f) = true) (hb : Binds X.K fd ps [])
    (hN : PySem.W.findIn X.K (.ref C) "__ne__" = some (some (.builtin "object.__ne__")) ∧ PySem.W.mroIn X.K C (.type "object") = some true) : OpR X (compareOp .NotEq) (rNeO C R) := by
  intro pins s σ H x y v u Q I rx ry ⟨⟨a, b, dx, dy, fs, gs, e1, e2, ha, hb', hr⟩, q⟩
  subst e1 e2
  cases rx
  cases ry
  obtain ⟨mA, J, _⟩ := ins_get I.hok ha
  obtain ⟨mB, J', _⟩ := ins_get I.hok hb'
  obtain ⟨od, J, _⟩ := J.look
  obtain ⟨od', J', _⟩ := J'.look
  have hsp : spEq R [.ref a, .ref b] H (fun v H' => v = .bl true ∧ Ext H H') C8.E0 := ⟨a, b, rfl, hr, fun H' e => ⟨rfl, e⟩⟩
  refine ne_run rm.units0 (show X.A.in1.units < cLine from rm.in1.units0) I.kIn J J'.type hN.1 hN.2 hs hf (wpAny_mono (run_one (vs := [V.ref a, V.ref b]) F rm hb I (.cons rfl (.cons rfl .nil)) hsp) (fun v s' ⟨z, H2, I2, rv, ez, ex⟩ => ?_) fun _ _ z => z)
  subst ez
  cases rv
  exact ⟨true, rfl, .bl false, H2, I2, rfl, q H2 ex⟩
end
section
variable {K : PySem.W.Frag}
/-- x != y, the same data in both -/
def dNeO (C : Addr) (ok : List Str → List Da → Prop) : DR2 := fun x y μ P => ∃ ns ds, x = .obj C ns ds ∧ y = .obj C ns ds ∧ ok ns ds ∧ P (.b false) μ
instance {C : Addr} {ok : List Str → List Da → Prop} : SoR K (rNeO C (REq K C ok)) (dNeO C ok) := ⟨fun ⟨ns, ds, e1, e2, o, p⟩ _ _ _ _ _ st a b k => by
  subst e1 e2
  have a0 := a
  have b0 := b
  cases a with | obj p1 p2 p3 => cases b with | obj q1 q2 q3 =>
  exact ⟨⟨_, _, _, _, _, _, rfl, rfl, st.same _ _ p1, st.same _ _ q1, _, ns, ds, st.same, a0, b0, o⟩, fun H' ex => k _ _ _ _ _ (Same.refl _) (st.ext fun b o e => ex b o e) (.v _) p⟩⟩
end
end LL

set_option synthInstance.maxSize 100000
set_option synthInstance.maxHeartbeats 4000000
namespace LL
open PySem L2 PySem.Spec PyProof.Rows
/-! ### an instance called, in a comprehension's turn -/
def tCallI (C : Addr) (sp : Sp) (tf : TE) (t : TA) : TE := fun σ H Q => tf σ H fun y H1 => ∃ a, y = V.ref a ∧ t σ H1 fun vs H2 => (∃ dx fs, H2 a = some (.ins C dx fs)) ∧ sp (V.ref a :: vs) H2 Q C8.E0
theorem pe_callI {X : Cx} {k : Nat} {C g : Addr} {sp : Sp} {fe e : Expr} {es : List Expr} {tf : TE} {t : TA} {pos : Pos} (hf : PE X fe tf) (c : StX.CallO X.K C g) (F : FnR X.prog X.w X.K X.mg X.base C8.CX0 k g sp) (hr : Room k X.A) (ha : PA X (e :: es) t)
    (ht : eval (.Call fe (e :: es) [] pos) X.env = (do callWith pos (← eval fe X.env) [] (backTo pos (starEach (e :: es) X.env)) (backToKw pos (keywordEach [] X.env))) := by rfl)
    (he : starEach (e :: es) X.env = (false, eval e X.env) :: starEach es X.env := by rfl) (hpl : (backTo pos (starEach es X.env)).any (·.1) = false := by rfl) : PE X (.Call fe (e :: es) [] pos) (tCallI C sp tf t) := by
  refine ⟨fun pins s σ H Q I h => ?_⟩
  refine Call_ (thn (hf.run pins s σ H _ I h) fun u s1 ⟨y, H1, I1, ry, a, ey, q⟩ => ?_) ht
  subst ey
  obtain rfl : u = Value.ref a := ry
  refine StX.callO_with (thn (ha.run pos pins s1 σ H1 _ I1 q) fun us s2 ⟨vs, H2, I2, r, hi, q2⟩ => ?_) he hpl
  have hi' : StX.InsC X H2 a C := .inr hi
  obtain ⟨ox, od, J, hd⟩ := StX.insC_at I2 hi'
  exact ⟨⟨C, ox, od, J, hd⟩, StX.run_callO c F hr (C8.pass0 (E := C8.E0)) I2 hi' r q2⟩
instance {K : PySem.W.Frag} {C : Addr} {dsp : DSp} {ta : TE} {tr : TA} {da dr} [A : SoE K ta da] [R : SoA K tr dr] : SoE K (tCallI C (spD K dsp) ta tr) (dCallO C dsp da dr) := ⟨fun h _ _ _ _ he st k => A.run h he st fun u x I1 H1 μ1 s1 st1 a1 ⟨ns, ds, hi, h1⟩ => by
  obtain ⟨q, dx, fs, rfl, h1', h2, h3⟩ := hi.at_ st1 a1
  exact ⟨q, rfl, R.run h1 (he.to s1) st1 fun us xs I2 H2 μ2 s2 st2 a2 ⟨⟨ns', ds', hi'⟩, p⟩ => by
    obtain ⟨q', dx', fs', e', h1'', _⟩ := hi'.at_ st2 (a1.to s2)
    cases e'
    exact ⟨⟨dx', fs', h1''⟩, I2, μ2, x :: xs, _, st2, .cons (a1.to s2) a2, p, CoE.to (s1.trans s2) k⟩⟩⟩
end LL


namespace LL
open PySem L2 PySem.Spec PyProof.Rows
def top (i : Nat) : Stmt := PySem.Challenge.pw_lanelots_k16_whole_nets_turned_and_joine.main.body.getD i (.Pass ⟨0, 0, 0, 0⟩)
abbrev s_is_integer : Stmt := top 16
abbrev N_is_integer : List Str := ["value"]
theorem sc_is_integer : FnScope N_is_integer ["value"] (C8.fnScope s_is_integer) := C8.fnScope_by (by decide +kernel)
abbrev s_is_count : Stmt := top 17
abbrev N_is_count : List Str := ["value"]
theorem sc_is_count : FnScope N_is_count ["value"] (C8.fnScope s_is_count) := C8.fnScope_by (by decide +kernel)
abbrev s_is_list : Stmt := top 18
abbrev N_is_list : List Str := ["value"]
theorem sc_is_list : FnScope N_is_list ["value"] (C8.fnScope s_is_list) := C8.fnScope_by (by decide +kernel)
abbrev s_is_content : Stmt := top 19
abbrev N_is_content : List Str := ["value", "number"]
theorem sc_is_content : FnScope N_is_content ["value"] (C8.fnScope s_is_content) := C8.fnScope_by (by decide +kernel)
abbrev s_has_lanes : Stmt := top 20
abbrev N_has_lanes : List Str := ["value"]
theorem sc_has_lanes : FnScope N_has_lanes ["value"] (C8.fnScope s_has_lanes) := C8.fnScope_by (by decide +kernel)
abbrev s_is_lane : Stmt := top 21
abbrev N_is_lane : List Str := ["value", "lanes"]
theorem sc_is_lane : FnScope N_is_lane ["value", "lanes"] (C8.fnScope s_is_lane) := C8.fnScope_by (by decide +kernel)
abbrev s_is_order : Stmt := top 22
abbrev N_is_order : List Str := ["value", "lanes", "lane"]
theorem sc_is_order : FnScope N_is_order ["value", "lanes"] (C8.fnScope s_is_order) := C8.fnScope_by (by decide +kernel)
abbrev s_check_content : Stmt := top 23
abbrev N_check_content : List Str := ["content", "lanes"]
theorem sc_check_content : FnScope N_check_content ["content", "lanes"] (C8.fnScope s_check_content) := C8.fnScope_by (by decide +kernel)
abbrev s_check_any_content : Stmt := top 24
abbrev N_check_any_content : List Str := ["content"]
theorem sc_check_any_content : FnScope N_check_any_content ["content"] (C8.fnScope s_check_any_content) := C8.fnScope_by (by decide +kernel)
abbrev s_check_lanes : Stmt := top 25
abbrev N_check_lanes : List Str := ["lanes", "least"]
theorem sc_check_lanes : FnScope N_check_lanes ["lanes", "least"] (C8.fnScope s_check_lanes) := C8.fnScope_by (by decide +kernel)
abbrev s_check_number : Stmt := top 26
abbrev N_check_number : List Str := ["number"]
theorem sc_check_number : FnScope N_check_number ["number"] (C8.fnScope s_check_number) := C8.fnScope_by (by decide +kernel)
abbrev s_check_many : Stmt := top 27
abbrev N_check_many : List Str := ["many"]
theorem sc_check_many : FnScope N_check_many ["many"] (C8.fnScope s_check_many) := C8.fnScope_by (by decide +kernel)
abbrev s_check_order : Stmt := top 28
abbrev N_check_order : List Str := ["order", "lanes"]
theorem sc_check_order : FnScope N_check_order ["order", "lanes"] (C8.fnScope s_check_order) := C8.fnScope_by (by decide +kernel)
abbrev s_raised : Stmt := top 29
abbrev N_raised : List Str := ["content", "number", "own"]
theorem sc_raised : FnScope N_raised ["content", "number"] (C8.fnScope s_raised) := C8.fnScope_by (by decide +kernel)
abbrev s_turned : Stmt := top 30
abbrev N_turned : List Str := ["content", "number"]
theorem sc_turned : FnScope N_turned ["content"] (C8.fnScope s_turned) := C8.fnScope_by (by decide +kernel)
abbrev s_moved : Stmt := top 31
abbrev N_moved : List Str := ["content", "order", "found", "lane", "number"]
theorem sc_moved : FnScope N_moved ["content", "order"] (C8.fnScope s_moved) := C8.fnScope_by (by decide +kernel)
abbrev s_is_gate : Stmt := top 34
abbrev N_is_gate : List Str := ["value", "lanes", "word", "i", "last"]
theorem sc_is_gate : FnScope N_is_gate ["value", "lanes"] (C8.fnScope s_is_gate) := C8.fnScope_by (by decide +kernel)
abbrev s_behind_gate : Stmt := top 35
abbrev N_behind_gate : List Str := ["gate", "content", "word", "i", "last", "found"]
theorem sc_behind_gate : FnScope N_behind_gate ["gate", "content"] (C8.fnScope s_behind_gate) := C8.fnScope_by (by decide +kernel)
abbrev s_turned_gate : Stmt := top 36
abbrev N_turned_gate : List Str := ["gate", "word", "i", "last"]
theorem sc_turned_gate : FnScope N_turned_gate ["gate"] (C8.fnScope s_turned_gate) := C8.fnScope_by (by decide +kernel)
abbrev s_gate_moved : Stmt := top 37
abbrev N_gate_moved : List Str := ["gate", "order", "word", "i", "last"]
theorem sc_gate_moved : FnScope N_gate_moved ["gate", "order"] (C8.fnScope s_gate_moved) := C8.fnScope_by (by decide +kernel)
abbrev s_Net_init : Stmt := inClass (top 38) 2
abbrev N_Net_init : List Str := ["self", "lanes", "gates", "gate"]
theorem sc_Net_init : FnScope N_Net_init ["self", "lanes", "gates"] (C8.fnScope s_Net_init) := C8.fnScope_by (by decide +kernel)
abbrev s_Net_of : Stmt := inClass (top 38) 3
abbrev N_Net_of : List Str := ["cls", "lanes", "gates"]
theorem sc_Net_of : FnScope N_Net_of ["cls", "lanes", "gates"] (C8.fnScope s_Net_of) := C8.fnScope_by (by decide +kernel)
abbrev s_Net_lanes : Stmt := inClass (top 38) 4
abbrev N_Net_lanes : List Str := ["self"]
theorem sc_Net_lanes : FnScope N_Net_lanes ["self"] (C8.fnScope s_Net_lanes) := C8.fnScope_by (by decide +kernel)
abbrev s_Net_len : Stmt := inClass (top 38) 7
abbrev N_Net_len : List Str := ["self"]
theorem sc_Net_len : FnScope N_Net_len ["self"] (C8.fnScope s_Net_len) := C8.fnScope_by (by decide +kernel)
abbrev s_Net_getitem : Stmt := inClass (top 38) 9
abbrev N_Net_getitem : List Str := ["self", "at"]
theorem sc_Net_getitem : FnScope N_Net_getitem ["self", "at"] (C8.fnScope s_Net_getitem) := C8.fnScope_by (by decide +kernel)
abbrev s_Net_call : Stmt := inClass (top 38) 10
abbrev N_Net_call : List Str := ["self", "content", "told", "gate"]
theorem sc_Net_call : FnScope N_Net_call ["self", "content"] (C8.fnScope s_Net_call) := C8.fnScope_by (by decide +kernel)
abbrev s_Net_add : Stmt := inClass (top 38) 11
abbrev N_Net_add : List Str := ["self", "other"]
theorem sc_Net_add : FnScope N_Net_add ["self", "other"] (C8.fnScope s_Net_add) := C8.fnScope_by (by decide +kernel)
abbrev s_Net_mul : Stmt := inClass (top 38) 12
abbrev N_Net_mul : List Str := ["self", "other", "many"]
theorem sc_Net_mul : FnScope N_Net_mul ["self", "other"] (C8.fnScope s_Net_mul) := C8.fnScope_by (by decide +kernel)
abbrev s_Net_neg : Stmt := inClass (top 38) 13
abbrev N_Net_neg : List Str := ["self", "gate"]
theorem sc_Net_neg : FnScope N_Net_neg ["self"] (C8.fnScope s_Net_neg) := C8.fnScope_by (by decide +kernel)
abbrev s_Net_eq : Stmt := inClass (top 38) 14
abbrev N_Net_eq : List Str := ["self", "other"]
theorem sc_Net_eq : FnScope N_Net_eq ["self", "other"] (C8.fnScope s_Net_eq) := C8.fnScope_by (by decide +kernel)
abbrev s_Net_repr : Stmt := inClass (top 38) 15
abbrev N_Net_repr : List Str := ["self"]
theorem sc_Net_repr : FnScope N_Net_repr ["self"] (C8.fnScope s_Net_repr) := C8.fnScope_by (by decide +kernel)
abbrev s_Net_beside : Stmt := inClass (top 38) 16
abbrev N_Net_beside : List Str := ["self", "other", "lanes", "behind", "gate"]
theorem sc_Net_beside : FnScope N_Net_beside ["self", "other"] (C8.fnScope s_Net_beside) := C8.fnScope_by (by decide +kernel)
abbrev s_Net_renumbered : Stmt := inClass (top 38) 17
abbrev N_Net_renumbered : List Str := ["self", "order", "gate"]
theorem sc_Net_renumbered : FnScope N_Net_renumbered ["self", "order"] (C8.fnScope s_Net_renumbered) := C8.fnScope_by (by decide +kernel)
abbrev s_Net_wider : Stmt := inClass (top 38) 18
abbrev N_Net_wider : List Str := ["self", "lanes"]
theorem sc_Net_wider : FnScope N_Net_wider ["self", "lanes"] (C8.fnScope s_Net_wider) := C8.fnScope_by (by decide +kernel)
abbrev s_Net_with_gate : Stmt := inClass (top 38) 19
abbrev N_Net_with_gate : List Str := ["self", "position", "gate"]
theorem sc_Net_with_gate : FnScope N_Net_with_gate ["self", "position", "gate"] (C8.fnScope s_Net_with_gate) := C8.fnScope_by (by decide +kernel)
abbrev s_Net_without : Stmt := inClass (top 38) 20
abbrev N_Net_without : List Str := ["self", "position"]
theorem sc_Net_without : FnScope N_Net_without ["self", "position"] (C8.fnScope s_Net_without) := C8.fnScope_by (by decide +kernel)
abbrev s_Net_cut : Stmt := inClass (top 38) 21
abbrev N_Net_cut : List Str := ["self", "position"]
theorem sc_Net_cut : FnScope N_Net_cut ["self", "position"] (C8.fnScope s_Net_cut) := C8.fnScope_by (by decide +kernel)
abbrev s_Net_exchanged : Stmt := inClass (top 38) 22
abbrev N_Net_exchanged : List Str := ["self", "position", "ahead", "behind"]
theorem sc_Net_exchanged : FnScope N_Net_exchanged ["self", "position"] (C8.fnScope s_Net_exchanged) := C8.fnScope_by (by decide +kernel)
abbrev s_check_gates : Stmt := top 39
abbrev N_check_gates : List Str := ["gates", "lanes", "position", "gate"]
theorem sc_check_gates : FnScope N_check_gates ["gates", "lanes"] (C8.fnScope s_check_gates) := C8.fnScope_by (by decide +kernel)
abbrev s_check_position : Stmt := top 40
abbrev N_check_position : List Str := ["position", "places"]
theorem sc_check_position : FnScope N_check_position ["position", "places"] (C8.fnScope s_check_position) := C8.fnScope_by (by decide +kernel)
abbrev s_law_pot : Stmt := top 42
abbrev N_law_pot : List Str := ["_law_script", "_law_k", "_law_cell"]
theorem sc_law_pot : FnScope N_law_pot ["_law_script", "_law_k"] (C8.fnScope s_law_pot) := C8.fnScope_by (by decide +kernel)
abbrev s_law_draw : Stmt := top 43
abbrev N_law_draw : List Str := ["_law_pot_here", "_law_size", "_law_digit"]
theorem sc_law_draw : FnScope N_law_draw ["_law_pot_here", "_law_size"] (C8.fnScope s_law_draw) := C8.fnScope_by (by decide +kernel)
abbrev s_law_pick : Stmt := top 44
abbrev N_law_pick : List Str := ["_law_pot_here", "_law_some"]
theorem sc_law_pick : FnScope N_law_pick ["_law_pot_here", "_law_some"] (C8.fnScope s_law_pick) := C8.fnScope_by (by decide +kernel)
abbrev s_law_mixed : Stmt := top 45
abbrev N_law_mixed : List Str := ["_law_pot_here", "_law_some", "_law_left", "_law_turn"]
theorem sc_law_mixed : FnScope N_law_mixed ["_law_pot_here", "_law_some"] (C8.fnScope s_law_mixed) := C8.fnScope_by (by decide +kernel)
abbrev s_law_gate : Stmt := top 46
abbrev N_law_gate : List Str := ["_law_pot_here", "_law_lanes", "_law_kind", "_law_one"]
theorem sc_law_gate : FnScope N_law_gate ["_law_pot_here", "_law_lanes"] (C8.fnScope s_law_gate) := C8.fnScope_by (by decide +kernel)
abbrev s_law_gates : Stmt := top 47
abbrev N_law_gates : List Str := ["_law_pot_here", "_law_lanes", "_law_most", "_law_turn"]
theorem sc_law_gates : FnScope N_law_gates ["_law_pot_here", "_law_lanes", "_law_most"] (C8.fnScope s_law_gates) := C8.fnScope_by (by decide +kernel)
abbrev s_law_content : Stmt := top 48
abbrev N_law_content : List Str := ["_law_pot_here", "_law_lanes", "_law_wide", "_law_lane"]
theorem sc_law_content : FnScope N_law_content ["_law_pot_here", "_law_lanes"] (C8.fnScope s_law_content) := C8.fnScope_by (by decide +kernel)
abbrev s_law_behind_right : Stmt := top 49
abbrev N_law_behind_right : List Str := ["_law_net", "_law_mate", "_law_content_here", "_law_here"]
theorem sc_law_behind_right : FnScope N_law_behind_right ["_law_net", "_law_mate", "_law_content_here"] (C8.fnScope s_law_behind_right) := C8.fnScope_by (by decide +kernel)
abbrev s_law_beside_right : Stmt := top 50
abbrev N_law_beside_right : List Str := ["_law_pot_here", "_law_net", "_law_lanes", "_law_other", "_law_far", "_law_content_here", "_law_more", "_law_wide", "_law_rest"]
theorem sc_law_beside_right : FnScope N_law_beside_right ["_law_pot_here", "_law_net", "_law_lanes", "_law_other", "_law_far", "_law_content_here"] (C8.fnScope s_law_beside_right) := C8.fnScope_by (by decide +kernel)
abbrev s_law_moved_right : Stmt := top 51
abbrev N_law_moved_right : List Str := ["_law_pot_here", "_law_net", "_law_lanes", "_law_content_here", "_law_order", "_law_later", "_law_mate", "_law_both", "_law_back", "_law_lane"]
theorem sc_law_moved_right : FnScope N_law_moved_right ["_law_pot_here", "_law_net", "_law_lanes", "_law_content_here"] (C8.fnScope s_law_moved_right) := C8.fnScope_by (by decide +kernel)
abbrev s_law_turned_right : Stmt := top 52
abbrev N_law_turned_right : List Str := ["_law_pot_here", "_law_net", "_law_mate", "_law_lanes", "_law_content_here", "_law_order"]
theorem sc_law_turned_right : FnScope N_law_turned_right ["_law_pot_here", "_law_net", "_law_mate", "_law_lanes", "_law_content_here"] (C8.fnScope s_law_turned_right) := C8.fnScope_by (by decide +kernel)
abbrev s_law_places_right : Stmt := top 53
abbrev N_law_places_right : List Str := ["_law_pot_here", "_law_net", "_law_lanes", "_law_content_here", "_law_spot", "_law_gate_here", "_law_near", "_law_far", "_law_here", "_law_one", "_law_pair", "_law_number", "_law_steps", "_law_due", "_law_step_now", "_law_lane"]
theorem sc_law_places_right : FnScope N_law_places_right ["_law_pot_here", "_law_net", "_law_lanes", "_law_content_here"] (C8.fnScope s_law_places_right) := C8.fnScope_by (by decide +kernel)
abbrev s_law_right : Stmt := top 54
abbrev N_law_right : List Str := ["_law_pot_here", "_law_lanes", "_law_far", "_law_net", "_law_mate", "_law_other", "_law_shown", "_law_turn", "_law_content_here"]
theorem sc_law_right : FnScope N_law_right ["_law_pot_here"] (C8.fnScope s_law_right) := C8.fnScope_by (by decide +kernel)
abbrev s_law : Stmt := top 55
abbrev N_law : List Str := ["_law_script", "_law_k"]
theorem sc_law : FnScope N_law ["_law_script"] (C8.fnScope s_law) := C8.fnScope_by (by decide +kernel)
/-! ### defs of the module -/
def DefAt (K : PySem.W.Frag) (mg : Str → Option Value) (x : Str) (st : Stmt) (ps : List Str) : Prop := ∃ f fd, C8.Def K mg x st f fd ∧ Binds K fd ps []
section
variable {P : Program} {w : World} {K : PySem.W.Frag} {mg : Str → Option Value} {base : Heap}
theorem DefAt.cal {x : Str} {st : Stmt} {N ps : List Str} {k : Nat} {sp : Sp} (D : DefAt K mg x st ps) (S : FnScope N ps (C8.fnScope st)) (len : ∀ vs H Q E, sp vs H Q E → vs.length = ps.length)
    (hbody : ∀ (f : Addr) (cdv : Value) (A : Around) (outer : List Env) (s : Shared) (H : Hp) (vs : List V) (Q : VK) (E : XK), Room k (A.deeper (envOfC x (C8.fnScope st) s.heap.objs.size f cdv)) → sp vs H Q E →
      ∃ t, PSs (cxOf CX0 P w K mg base N x (C8.fnScope st) f cdv A outer s H E).nox (C8.fnBody st) t ∧ t { nx := fun _ H' => Q .non H', rt := Q } (start N vs) H) : C8.Cal P w K mg base (k + 1) x sp [] := by
  obtain ⟨f, fd, F, b⟩ := D
  exact C8.cal0 F b .nil S len (hbody f)
end
/-- three arguments by name, the last one first -/
def rot3 {α : Type} (us zs : List α) : List α := match us, zs with | [], [m, c, n] => [n, c, m] | _, _ => []
/-- two arguments by name, the last one first -/
def rot2 {α : Type} (us zs : List α) : List α := match us, zs with | [], [c, n] => [n, c] | _, _ => []
/-- o(content=c): how a call by that name alone is bound, behind self -/
def KBinds1 (K : PySem.W.Frag) (fd : FuncData) : Prop := ∀ (s : Shared) (x c : Value), K.In s.heap → BindsTo s fd ⟨[x], [(("content" : Str), c)]⟩ (([("self" : Str), "content"] : List Str).zip [x, c])
structure Txt (K : PySem.W.Frag) (mg : Str → Option Value) (C : Addr) : Prop where
  b_abs : mg "abs" = none
  b_all : mg "all" = none
  b_bool : mg "bool" = none
  b_divmod : mg "divmod" = none
  b_enumerate : mg "enumerate" = none
  b_int : mg "int" = none
  b_isinstance : mg "isinstance" = none
  b_len : mg "len" = none
  b_list : mg "list" = none
  b_max : mg "max" = none
  b_min : mg "min" = none
  b_range : mg "range" = none
  b_repr : mg "repr" = none
  b_sorted : mg "sorted" = none
  b_str : mg "str" = none
  b_tuple : mg "tuple" = none
  b_zip : mg "zip" = none
  d_is_integer : DefAt K mg "is_integer" s_is_integer ["value"]
  d_is_count : DefAt K mg "is_count" s_is_count ["value"]
  d_is_list : DefAt K mg "is_list" s_is_list ["value"]
  d_is_content : DefAt K mg "is_content" s_is_content ["value"]
  d_has_lanes : DefAt K mg "_has_lanes" s_has_lanes ["value"]
  d_is_lane : DefAt K mg "is_lane" s_is_lane ["value", "lanes"]
  d_is_order : DefAt K mg "is_order" s_is_order ["value", "lanes"]
  d_check_content : DefAt K mg "check_content" s_check_content ["content", "lanes"]
  d_check_any_content : DefAt K mg "check_any_content" s_check_any_content ["content"]
  d_check_lanes : DefAt K mg "check_lanes" s_check_lanes ["lanes", "least"]
  d_check_number : DefAt K mg "check_number" s_check_number ["number"]
  d_check_many : DefAt K mg "check_many" s_check_many ["many"]
  d_check_order : DefAt K mg "check_order" s_check_order ["order", "lanes"]
  d_raised : DefAt K mg "raised" s_raised ["content", "number"]
  d_turned : DefAt K mg "turned" s_turned ["content"]
  d_moved : DefAt K mg "moved" s_moved ["content", "order"]
  d_is_gate : DefAt K mg "is_gate" s_is_gate ["value", "lanes"]
  d_behind_gate : DefAt K mg "behind_gate" s_behind_gate ["gate", "content"]
  d_turned_gate : DefAt K mg "turned_gate" s_turned_gate ["gate"]
  d_gate_moved : DefAt K mg "gate_moved" s_gate_moved ["gate", "order"]
  d_check_gates : DefAt K mg "_check_gates" s_check_gates ["gates", "lanes"]
  d_check_position : DefAt K mg "check_position" s_check_position ["position", "places"]
  d_law_pot : DefAt K mg "_law_pot" s_law_pot ["_law_script", "_law_k"]
  d_law_draw : DefAt K mg "_law_draw" s_law_draw ["_law_pot_here", "_law_size"]
  d_law_pick : DefAt K mg "_law_pick" s_law_pick ["_law_pot_here", "_law_some"]
  d_law_mixed : DefAt K mg "_law_mixed" s_law_mixed ["_law_pot_here", "_law_some"]
  d_law_gate : DefAt K mg "_law_gate" s_law_gate ["_law_pot_here", "_law_lanes"]
  d_law_gates : DefAt K mg "_law_gates" s_law_gates ["_law_pot_here", "_law_lanes", "_law_most"]
  d_law_content : DefAt K mg "_law_content" s_law_content ["_law_pot_here", "_law_lanes"]
  d_law_behind_right : DefAt K mg "_law_behind_right" s_law_behind_right ["_law_net", "_law_mate", "_law_content_here"]
  d_law_beside_right : DefAt K mg "_law_beside_right" s_law_beside_right ["_law_pot_here", "_law_net", "_law_lanes", "_law_other", "_law_far", "_law_content_here"]
  d_law_moved_right : DefAt K mg "_law_moved_right" s_law_moved_right ["_law_pot_here", "_law_net", "_law_lanes", "_law_content_here"]
  d_law_turned_right : DefAt K mg "_law_turned_right" s_law_turned_right ["_law_pot_here", "_law_net", "_law_mate", "_law_lanes", "_law_content_here"]
  d_law_places_right : DefAt K mg "_law_places_right" s_law_places_right ["_law_pot_here", "_law_net", "_law_lanes", "_law_content_here"]
  d_law_right : DefAt K mg "_law_right" s_law_right ["_law_pot_here"]
  d_law : DefAt K mg "law" s_law ["_law_script"]
  gLANES_AT_MOST : ∃ u, mg "LANES_AT_MOST" = some u ∧ RelV (.int 12) u
  gTWO : ∃ a, mg "_TWO_LANE_WORDS" = some (.ref a) ∧ ∀ H : Hp, SqT K H a [.str "low", .str "high", .str "sort", .str "copy"]
  cl : Cls K C
  mgC : mg "Net" = some (.ref C)
  nL : NoAttr K C "_lanes"
  nG : NoAttr K C "_gates"
  cM : ∃ mc u, ClX.CRead K C mc ∧ ClX.CVal K C mc "MOST_GATES" (.int 400) u
  cI : ∃ u, Con K C "MOST_GATES" (.int 400) u
  cJ : ∃ u, Con K C "MOST_LANES" (.int 12) u
  i_init : ∃ f fd e, C8.Fun K "__init__" "Net.__init__" s_Net_init f fd ∧ Mk K C f ∧ (∀ I : Hp, SqT K I e []) ∧ Binds K fd ["self", "lanes", "gates"] [] ∧ Binds K fd ["self", "lanes", "gates"] [.ref e]
  i_of : ∃ mc p g fd, C8.Fun K "of" "Net.of" s_Net_of g fd ∧ ClX.CRead K C mc ∧ ClX.CMet K C mc "of" p g ∧ ∀ us rest : List Value, us.length = 2 → bindArgs fd ⟨us ++ rest, []⟩ = (newTuple rest >>= fun t => pure ((["cls", "lanes"] : List Str).zip us ++ [(("gates" : Str), t)]))
  i_call : ∃ f fd, C8.Fun K "__call__" "Net.__call__" s_Net_call f fd ∧ StX.CallO K C f ∧ Binds K fd ["self", "content"] [] ∧ KBinds1 K fd
  i_lanes : ∃ p g fd, C8.Fun K "lanes" "Net.lanes" s_Net_lanes g fd ∧ PropOf K C "lanes" p g ∧ Binds K fd ["self"] []
  i_eq : ∃ f fd, C8.Fun K "__eq__" "Net.__eq__" s_Net_eq f fd ∧ PySem.W.findIn K (.ref C) "__eq__" = some (some (.ref f)) ∧ PySem.W.isFn K (.ref f) = true ∧ Binds K fd ["self", "other"] []
  i_cut : ∃ f fd, C8.Fun K "cut" "Net.cut" s_Net_cut f fd ∧ Meth K C "cut" f ∧ Binds K fd ["self", "position"] []
  i_repr : ∃ f fd, C8.Fun K "__repr__" "Net.__repr__" s_Net_repr f fd ∧ PySem.W.findIn K (.ref C) "__repr__" = some (some (.ref f)) ∧ PySem.W.isFn K (.ref f) = true ∧ Binds K fd ["self"] []
  i_add : ∃ f fd, C8.Fun K "__add__" "Net.__add__" s_Net_add f fd ∧ PySem.W.findIn K (.ref C) (PySem.dunder Operator.Add.info.2) = some (some (.ref f)) ∧ PySem.W.isFn K (.ref f) = true ∧ Binds K fd ["self", "other"] []
  i_mul : ∃ f fd, C8.Fun K "__mul__" "Net.__mul__" s_Net_mul f fd ∧ PySem.W.findIn K (.ref C) (PySem.dunder Operator.Mult.info.2) = some (some (.ref f)) ∧ PySem.W.isFn K (.ref f) = true ∧ Binds K fd ["self", "other"] []
  o_first : PySem.W.selfFirst K C = true
  o_rmul : PySem.W.findIn K (.ref C) (PySem.dunderR Operator.Mult.info.2) = some none
  o_int1 : ∃ fo, PySem.W.findIn K (.type "int") (PySem.dunder Operator.Mult.info.2) = some fo
  o_int2 : ∃ ro, PySem.W.findIn K (.type "int") (PySem.dunderR Operator.Mult.info.2) = some ro
  o_sub : PySem.W.subIn K (.type "int") (.ref C) = some false
  q_ha : PySem.W.findIn K (.ref C) "__class__" = some (some (.builtin "object.__class__"))
  q_hn : PySem.W.specialIn K (.builtin "object.__class__") "__get__" = some (some (.builtin "getset_descriptor.__get__"))
  q_ht : PySem.W.takesIn K (.builtin "object.__class__") = some true
  q_hm : PySem.W.mroIn K C (.type "object") = some true
  i_neg : ∃ f fd, C8.Fun K "__neg__" "Net.__neg__" s_Net_neg f fd ∧ PySem.W.findIn K (.ref C) "__neg__" = some (some (.ref f)) ∧ PySem.W.isFn K (.ref f) = true ∧ Binds K fd ["self"] []
  i_len : ∃ f fd, C8.Fun K "__len__" "Net.__len__" s_Net_len f fd ∧ PySem.W.findIn K (.ref C) "__len__" = some (some (.ref f)) ∧ PySem.W.isFn K (.ref f) = true ∧ Binds K fd ["self"] []
  i_getitem : ∃ f fd, C8.Fun K "__getitem__" "Net.__getitem__" s_Net_getitem f fd ∧ PySem.W.findIn K (.ref C) "__getitem__" = some (some (.ref f)) ∧ PySem.W.isFn K (.ref f) = true ∧ PySem.W.fnIn K f = true ∧ Binds K fd ["self", "at"] []
  i_beside : ∃ f fd, C8.Fun K "beside" "Net.beside" s_Net_beside f fd ∧ Meth K C "beside" f ∧ Binds K fd ["self", "other"] []
  i_ren : ∃ f fd, C8.Fun K "renumbered" "Net.renumbered" s_Net_renumbered f fd ∧ Meth K C "renumbered" f ∧ Binds K fd ["self", "order"] []
  i_wider : ∃ f fd, C8.Fun K "wider" "Net.wider" s_Net_wider f fd ∧ Meth K C "wider" f ∧ Binds K fd ["self", "lanes"] []
  i_with : ∃ f fd, C8.Fun K "with_gate" "Net.with_gate" s_Net_with_gate f fd ∧ Meth K C "with_gate" f ∧ Binds K fd ["self", "position", "gate"] []
  i_without : ∃ f fd, C8.Fun K "without" "Net.without" s_Net_without f fd ∧ Meth K C "without" f ∧ Binds K fd ["self", "position"] []
  i_exchanged : ∃ f fd, C8.Fun K "exchanged" "Net.exchanged" s_Net_exchanged f fd ∧ Meth K C "exchanged" f ∧ Binds K fd ["self", "position"] []
  q_ne : PySem.W.findIn K (.ref C) "__ne__" = some (some (.builtin "object.__ne__"))
end LL

set_option synthInstance.maxSize 100000
set_option synthInstance.maxHeartbeats 4000000
namespace LL
open PySem L2 PySem.Spec PyProof.Rows
/-- a row of ints, as data -/
abbrev rowD (ns : List Int) : Da := .lst (ns.map Da.i)
/-- a content: a list or a tuple of one to twelve ints -/
def Ct (x : Da) (ns : List Int) : Prop := (x = rowD ns ∨ x = .tup (ns.map Da.i)) ∧ 1 ≤ ns.length ∧ ns.length ≤ 12
/-- a list or a tuple -/
def Lt (x : Da) : Prop := ∃ ds, x = .lst ds ∨ x = .tup ds
theorem Ct.lt {x : Da} {ns : List Int} (h : Ct x ns) : Lt x := ⟨_, h.1⟩
theorem Ct.sq {x : Da} {ns : List Int} {μ : Mu} (h : Ct x ns) : Sq μ x (ns.map Da.i) := h.1.elim (fun e => by rw [e]; exact .l) fun e => by rw [e]; exact .t
section
variable {K : PySem.W.Frag}
theorem lt_ty {x : Da} {μ : Mu} (h : Lt x) : ∃ (t : Value), TyD K μ x t ∧ PySem.W.kitAny K t [.type "list", .type "tuple"] = some true := by
  obtain ⟨ds, rfl | rfl⟩ := h
  · exact ⟨_, .lst .l, kitYes1 (kit_ty (by decide +kernel))⟩
  · exact ⟨_, .tup _, kitNo1 (kit_ty (by decide +kernel)) (kit_ty (by decide +kernel))⟩
theorem getMap {ns : List Int} {i : Nat} {d : Da} (h : (ns.map Da.i)[i]? = some d) : ∃ n, d = .i n ∧ ns[i]? = some n := by
  rw [List.getElem?_map] at h
  cases e : ns[i]? with
  | none => rw [e] at h; cases h
  | some n => rw [e] at h; exact ⟨n, (Option.some.inj h).symm, rfl⟩
end
section
variable {P : Program} {w : World} {K : PySem.W.Frag} {mg : Str → Option Value} {base : Heap} {C : Addr}
def dsp_is_integer : DSp := fun ds μ Q => ∃ i, ds = [.i i] ∧ Q (.b true) μ
theorem c_is_integer (T : Txt K mg C) : C8.Cal P w K mg base 1 "is_integer" (spD K dsp_is_integer) [] := by
  obtain ⟨f, fd, D, b⟩ := T.d_is_integer
  refine ⟨f, fd, _, [], fnD (dsp := dsp_is_integer) D.fn sc_is_integer (fun ds μ Q h => ?_) (fun cdv A outer s H E hr _ => ?_), D.mgf, D.kp, b, .nil⟩
  · obtain ⟨i, rfl, _⟩ := h
    rfl
  · refine ⟨_, (pss_one (ps_ret (pe_and (pe_callB call_isi (by rfl) T.b_isinstance (by decide +kernel) (pa_cons (pv 0) (pa_cons (pe_bltn (v := .ty "int") (by rfl) T.b_int (by decide +kernel) rfl) pa_nil))) (pe_one (pe_not (pe_callB call_isi (by rfl) T.b_isinstance (by decide +kernel) (pa_cons (pv 0) (pa_cons (pe_bltn (v := .ty "bool") (by rfl) T.b_bool (by decide +kernel) rfl) pa_nil)))))))), ?_⟩
    dsimp only [cxOf, Cx.nox]
    refine ⟨_, inferInstance, fun ds μ Q h => ?_⟩
    obtain ⟨i, rfl, h⟩ := h
    simp only [dVar, dC, dOp, dUn, dI0, dU, dEq, dNe, dIsN, dIxL, dIxT, dIn, dCat, dRep, dTest, dAnd, dOr, dNot, dYes, dAndV, dOrV, dNotV, dIf, dChain, dNil, dCons, dTup, dLst, dCall, dCallD, dFld, dCon, dCVal, dMeth, dProp, dMake, dMakeD, dCallO, dCB, dLen, dListOf, dTupleOf, d2I, d1I, dInt1, dDivmod, dInts, dBools, dIsi, dBM, dAppend, dNoPart, dPart, dSl, dOwn2, dOwnI, dOwnN, dEqD, dName, dgNil, dgCons, dgTup, dSub, dSetL, dNext, dSeq, dBreak, dCont, dDrop, dRet, dRetN, dIfS, dAsg, dPar, dSetF, dI, endD, startR, Option.some.injEq, Da.v.injEq, Da.tup.injEq, Da.lst.injEq, V.int.injEq, V.bl.injEq, V.str.injEq, V.ref.injEq, exists_eq_left', exists_eq_left, exists_and_left, List.cons.injEq, and_true, true_and, and_assoc, exists_eq, List.map_cons, List.map_nil, List.length_cons, List.length_nil, List.cons_append, List.nil_append, List.append_nil, List.replicate_succ, List.replicate_zero, List.getElem?_cons_succ, List.getElem?_cons_zero, List.set_cons_succ, List.set_cons_zero, List.length_map, if_true, Bool.false_eq_true, if_false, reduceIte, Nat.reduceAdd, Nat.reduceSub, Nat.zero_add, exists_const, exists_false, List.length_replicate, fzv_b, fzv_i, fzv_s, fzv_n, fzv_t, fzv_l, fzv_o, dIsiTE, dMakeL, dCMeth, dReprD, dReprL, dTruth, scal_ii, scal_ss, scal_bb, Cell.ml.injEq, Cell.mi.injEq, reduceCtorEq, Bool.true_eq_false, not_true_eq_false, not_false_eq_true, Int.natCast_nonneg, Int.ofNat_lt, Int.ofNat_le, Int.natCast_inj, isi_ii, isi_ib, isi_ss, isi_tt, sq_t, sq_l, lst_l, lstT_l, ins_o, ins_oC, fld_cons, ofStr_eq, String.reduceEq, Bool.not_true, Bool.not_false, Bool.not_eq_true', decide_eq_false_iff_not, decide_eq_true_eq, dNever, N_is_integer]
    exact h
def dsp_is_count : DSp := fun ds μ Q => ∃ i, ds = [.i i] ∧ Q (.b (decide (0 ≤ i))) μ
theorem c_is_count (T : Txt K mg C) : C8.Cal P w K mg base 2 "is_count" (spD K dsp_is_count) [] := by
  obtain ⟨f, fd, D, b⟩ := T.d_is_count
  refine ⟨f, fd, _, [], fnD (dsp := dsp_is_count) D.fn sc_is_count (fun ds μ Q h => ?_) (fun cdv A outer s H E hr _ => ?_), D.mgf, D.kp, b, .nil⟩
  · obtain ⟨i, rfl, _⟩ := h
    rfl
  · refine ⟨_, (pss_one (ps_ret (pe_and (C8.pe_c (c_is_integer T) hr (by decide) rfl (pa_cons (pv 0) pa_nil)) (pe_one (pe_cmpR op_ge (pv 0) pe_int (nomark _)))))), ?_⟩
    dsimp only [cxOf, Cx.nox]
    refine ⟨_, inferInstance, fun ds μ Q h => ?_⟩
    obtain ⟨i, rfl, h⟩ := h
    simp only [dVar, dC, dOp, dUn, dI0, dU, dEq, dNe, dIsN, dIxL, dIxT, dIn, dCat, dRep, dTest, dAnd, dOr, dNot, dYes, dAndV, dOrV, dNotV, dIf, dChain, dNil, dCons, dTup, dLst, dCall, dCallD, dFld, dCon, dCVal, dMeth, dProp, dMake, dMakeD, dCallO, dCB, dLen, dListOf, dTupleOf, d2I, d1I, dInt1, dDivmod, dInts, dBools, dIsi, dBM, dAppend, dNoPart, dPart, dSl, dOwn2, dOwnI, dOwnN, dEqD, dName, dgNil, dgCons, dgTup, dSub, dSetL, dNext, dSeq, dBreak, dCont, dDrop, dRet, dRetN, dIfS, dAsg, dPar, dSetF, dI, endD, startR, Option.some.injEq, Da.v.injEq, Da.tup.injEq, Da.lst.injEq, V.int.injEq, V.bl.injEq, V.str.injEq, V.ref.injEq, exists_eq_left', exists_eq_left, exists_and_left, List.cons.injEq, and_true, true_and, and_assoc, exists_eq, List.map_cons, List.map_nil, List.length_cons, List.length_nil, List.cons_append, List.nil_append, List.append_nil, List.replicate_succ, List.replicate_zero, List.getElem?_cons_succ, List.getElem?_cons_zero, List.set_cons_succ, List.set_cons_zero, List.length_map, if_true, Bool.false_eq_true, if_false, reduceIte, Nat.reduceAdd, Nat.reduceSub, Nat.zero_add, exists_const, exists_false, List.length_replicate, fzv_b, fzv_i, fzv_s, fzv_n, fzv_t, fzv_l, fzv_o, dIsiTE, dMakeL, dCMeth, dReprD, dReprL, dTruth, scal_ii, scal_ss, scal_bb, Cell.ml.injEq, Cell.mi.injEq, reduceCtorEq, Bool.true_eq_false, not_true_eq_false, not_false_eq_true, Int.natCast_nonneg, Int.ofNat_lt, Int.ofNat_le, Int.natCast_inj, isi_ii, isi_ib, isi_ss, isi_tt, sq_t, sq_l, lst_l, lstT_l, ins_o, ins_oC, fld_cons, ofStr_eq, String.reduceEq, Bool.not_true, Bool.not_false, Bool.not_eq_true', decide_eq_false_iff_not, decide_eq_true_eq, dNever, N_is_count, dsp_is_integer]
    exact h
def dsp_is_list : DSp := fun ds μ Q => ∃ x, ds = [x] ∧ Lt x ∧ Q (.b true) μ
theorem c_is_list (T : Txt K mg C) : C8.Cal P w K mg base 1 "is_list" (spD K dsp_is_list) [] := by
  obtain ⟨f, fd, D, b⟩ := T.d_is_list
  refine ⟨f, fd, _, [], fnD (dsp := dsp_is_list) D.fn sc_is_list (fun ds μ Q h => ?_) (fun cdv A outer s H E hr _ => ?_), D.mgf, D.kp, b, .nil⟩
  · obtain ⟨x, rfl, _⟩ := h
    rfl
  · refine ⟨_, (pss_one (ps_ret (pe_callB call_isiT (by rfl) T.b_isinstance (by decide +kernel) (pa_cons (pv 0) (pa_cons (pe_tup (pa_cons (pe_bltn (v := .ty "list") (by rfl) T.b_list (by decide +kernel) rfl) (pa_cons (pe_bltn (v := .ty "tuple") (by rfl) T.b_tuple (by decide +kernel) rfl) pa_nil))) pa_nil))))), ?_⟩
    dsimp only [cxOf, Cx.nox]
    refine ⟨_, inferInstance, fun ds μ Q h => ?_⟩
    obtain ⟨x, rfl, c, h⟩ := h
    simp only [dVar, dC, dOp, dUn, dI0, dU, dEq, dNe, dIsN, dIxL, dIxT, dIn, dCat, dRep, dTest, dAnd, dOr, dNot, dYes, dAndV, dOrV, dNotV, dIf, dChain, dNil, dCons, dTup, dLst, dCall, dCallD, dFld, dCon, dCVal, dMeth, dProp, dMake, dMakeD, dCallO, dCB, dLen, dListOf, dTupleOf, d2I, d1I, dInt1, dDivmod, dInts, dBools, dIsi, dBM, dAppend, dNoPart, dPart, dSl, dOwn2, dOwnI, dOwnN, dEqD, dName, dgNil, dgCons, dgTup, dSub, dSetL, dNext, dSeq, dBreak, dCont, dDrop, dRet, dRetN, dIfS, dAsg, dPar, dSetF, dI, endD, startR, Option.some.injEq, Da.v.injEq, Da.tup.injEq, Da.lst.injEq, V.int.injEq, V.bl.injEq, V.str.injEq, V.ref.injEq, exists_eq_left', exists_eq_left, exists_and_left, List.cons.injEq, and_true, true_and, and_assoc, exists_eq, List.map_cons, List.map_nil, List.length_cons, List.length_nil, List.cons_append, List.nil_append, List.append_nil, List.replicate_succ, List.replicate_zero, List.getElem?_cons_succ, List.getElem?_cons_zero, List.set_cons_succ, List.set_cons_zero, List.length_map, if_true, Bool.false_eq_true, if_false, reduceIte, Nat.reduceAdd, Nat.reduceSub, Nat.zero_add, exists_const, exists_false, List.length_replicate, fzv_b, fzv_i, fzv_s, fzv_n, fzv_t, fzv_l, fzv_o, dIsiTE, dMakeL, dCMeth, dReprD, dReprL, dTruth, scal_ii, scal_ss, scal_bb, Cell.ml.injEq, Cell.mi.injEq, reduceCtorEq, Bool.true_eq_false, not_true_eq_false, not_false_eq_true, Int.natCast_nonneg, Int.ofNat_lt, Int.ofNat_le, Int.natCast_inj, isi_ii, isi_ib, isi_ss, isi_tt, sq_t, sq_l, lst_l, lstT_l, ins_o, ins_oC, fld_cons, ofStr_eq, String.reduceEq, Bool.not_true, Bool.not_false, Bool.not_eq_true', decide_eq_false_iff_not, decide_eq_true_eq, dNever, N_is_list]
    obtain ⟨t, h1, h2⟩ := lt_ty (K := K) (μ := μ) c
    exact ⟨[.ty "list", .ty "tuple"], rfl, (by show 2 ≤ sizeLine; decide), _, .cons (.ty _) (.cons (.ty _) .nil), t, h1, true, h2, h⟩
def dsp_has_lanes : DSp := fun ds μ Q => ∃ x ns, ds = [x] ∧ Ct x ns ∧ Q (.b true) μ
theorem c_has_lanes (T : Txt K mg C) : C8.Cal P w K mg base 2 "_has_lanes" (spD K dsp_has_lanes) [] := by
  obtain ⟨f, fd, D, b⟩ := T.d_has_lanes
  refine ⟨f, fd, _, [], fnD (dsp := dsp_has_lanes) D.fn sc_has_lanes (fun ds μ Q h => ?_) (fun cdv A outer s H E hr _ => ?_), D.mgf, D.kp, b, .nil⟩
  · obtain ⟨x, ns, rfl, _⟩ := h
    rfl
  · refine ⟨_, (pss_one (ps_ret (pe_and (C8.pe_c (c_is_list T) hr (by decide) rfl (pa_cons (pv 0) pa_nil)) (pe_one (pe_chain op_le op_le pe_int (pe_callB call_len_seq (by rfl) T.b_len (by decide +kernel) (pa_cons (pv 0) pa_nil)) (C8.pe_gc rfl T.gLANES_AT_MOST)))))), ?_⟩
    dsimp only [cxOf, Cx.nox]
    refine ⟨_, inferInstance, fun ds μ Q h => ?_⟩
    obtain ⟨x, ns, rfl, c, h⟩ := h
    simp only [dVar, dC, dOp, dUn, dI0, dU, dEq, dNe, dIsN, dIxL, dIxT, dIn, dCat, dRep, dTest, dAnd, dOr, dNot, dYes, dAndV, dOrV, dNotV, dIf, dChain, dNil, dCons, dTup, dLst, dCall, dCallD, dFld, dCon, dCVal, dMeth, dProp, dMake, dMakeD, dCallO, dCB, dLen, dListOf, dTupleOf, d2I, d1I, dInt1, dDivmod, dInts, dBools, dIsi, dBM, dAppend, dNoPart, dPart, dSl, dOwn2, dOwnI, dOwnN, dEqD, dName, dgNil, dgCons, dgTup, dSub, dSetL, dNext, dSeq, dBreak, dCont, dDrop, dRet, dRetN, dIfS, dAsg, dPar, dSetF, dI, endD, startR, Option.some.injEq, Da.v.injEq, Da.tup.injEq, Da.lst.injEq, V.int.injEq, V.bl.injEq, V.str.injEq, V.ref.injEq, exists_eq_left', exists_eq_left, exists_and_left, List.cons.injEq, and_true, true_and, and_assoc, exists_eq, List.map_cons, List.map_nil, List.length_cons, List.length_nil, List.cons_append, List.nil_append, List.append_nil, List.replicate_succ, List.replicate_zero, List.getElem?_cons_succ, List.getElem?_cons_zero, List.set_cons_succ, List.set_cons_zero, List.length_map, if_true, Bool.false_eq_true, if_false, reduceIte, Nat.reduceAdd, Nat.reduceSub, Nat.zero_add, exists_const, exists_false, List.length_replicate, fzv_b, fzv_i, fzv_s, fzv_n, fzv_t, fzv_l, fzv_o, dIsiTE, dMakeL, dCMeth, dReprD, dReprL, dTruth, scal_ii, scal_ss, scal_bb, Cell.ml.injEq, Cell.mi.injEq, reduceCtorEq, Bool.true_eq_false, not_true_eq_false, not_false_eq_true, Int.natCast_nonneg, Int.ofNat_lt, Int.ofNat_le, Int.natCast_inj, isi_ii, isi_ib, isi_ss, isi_tt, sq_t, sq_l, lst_l, lstT_l, ins_o, ins_oC, fld_cons, ofStr_eq, String.reduceEq, Bool.not_true, Bool.not_false, Bool.not_eq_true', decide_eq_false_iff_not, decide_eq_true_eq, dNever, N_has_lanes, dsp_is_list]
    refine ⟨c.lt, ?_⟩
    have h1 := c.2.1
    have h2 := c.2.2
    refine ⟨_, c.sq, ?_⟩
    simp only [dVar, dC, dOp, dUn, dI0, dU, dEq, dNe, dIsN, dIxL, dIxT, dIn, dCat, dRep, dTest, dAnd, dOr, dNot, dYes, dAndV, dOrV, dNotV, dIf, dChain, dNil, dCons, dTup, dLst, dCall, dCallD, dFld, dCon, dCVal, dMeth, dProp, dMake, dMakeD, dCallO, dCB, dLen, dListOf, dTupleOf, d2I, d1I, dInt1, dDivmod, dInts, dBools, dIsi, dBM, dAppend, dNoPart, dPart, dSl, dOwn2, dOwnI, dOwnN, dEqD, dName, dgNil, dgCons, dgTup, dSub, dSetL, dNext, dSeq, dBreak, dCont, dDrop, dRet, dRetN, dIfS, dAsg, dPar, dSetF, dI, endD, startR, Option.some.injEq, Da.v.injEq, Da.tup.injEq, Da.lst.injEq, V.int.injEq, V.bl.injEq, V.str.injEq, V.ref.injEq, exists_eq_left', exists_eq_left, exists_and_left, List.cons.injEq, and_true, true_and, and_assoc, exists_eq, List.map_cons, List.map_nil, List.length_cons, List.length_nil, List.cons_append, List.nil_append, List.append_nil, List.replicate_succ, List.replicate_zero, List.getElem?_cons_succ, List.getElem?_cons_zero, List.set_cons_succ, List.set_cons_zero, List.length_map, if_true, Bool.false_eq_true, if_false, reduceIte, Nat.reduceAdd, Nat.reduceSub, Nat.zero_add, exists_const, exists_false, List.length_replicate, fzv_b, fzv_i, fzv_s, fzv_n, fzv_t, fzv_l, fzv_o, dIsiTE, dMakeL, dCMeth, dReprD, dReprL, dTruth, scal_ii, scal_ss, scal_bb, Cell.ml.injEq, Cell.mi.injEq, reduceCtorEq, Bool.true_eq_false, not_true_eq_false, not_false_eq_true, Int.natCast_nonneg, Int.ofNat_lt, Int.ofNat_le, Int.natCast_inj, isi_ii, isi_ib, isi_ss, isi_tt, sq_t, sq_l, lst_l, lstT_l, ins_o, ins_oC, fld_cons, ofStr_eq, String.reduceEq, Bool.not_true, Bool.not_false, Bool.not_eq_true', decide_eq_false_iff_not, decide_eq_true_eq, dNever, decide_eq_true_eq]
    rw [if_pos (by omega), decide_eq_true (by omega)]
    exact h
def dsp_is_content : DSp := fun ds μ Q => ∃ x ns, ds = [x] ∧ Ct x ns ∧ Q (.b true) μ
theorem c_is_content (T : Txt K mg C) : C8.Cal P w K mg base 3 "is_content" (spD K dsp_is_content) [] := by
  obtain ⟨f, fd, D, b⟩ := T.d_is_content
  refine ⟨f, fd, _, [], fnD (dsp := dsp_is_content) D.fn sc_is_content (fun ds μ Q h => ?_) (fun cdv A outer s H E hr _ => ?_), D.mgf, D.kp, b, .nil⟩
  · obtain ⟨x, ns, rfl, _⟩ := h
    rfl
  · refine ⟨_, (pss_one (ps_ret (pe_and (C8.pe_c (c_has_lanes T) hr (by decide) rfl (pa_cons (pv 0) pa_nil)) (pe_one (pe_callB (cr_all rfl) (by rfl) T.b_all (by decide +kernel) (pa_cons (pe_lc (own := [("number", 1)]) (g := (gName 1)) (tt := tYes) rfl sc_is_content.nd (pi_or (pi_list (pv 0)) (pi_tup (pv 0))) (blkOk_by (N := N_is_content) (sc := C8.fnScope s_is_content) (by decide +kernel)) (fun _ _ _ _ _ => (pg_name (i := 1) sc_is_content.nd rfl (Or.inl rfl))) (fun _ _ _ _ _ => pts_nil) (fun _ _ _ _ _ => (C8.pe_c (c_is_integer T) hr (by decide) rfl (pa_cons (pv 1) pa_nil)))) pa_nil)))))), ?_⟩
    dsimp only [cxOf, Cx.nox]
    refine ⟨_, inferInstance, fun ds μ Q h => ?_⟩
    obtain ⟨x, ns, rfl, c, h⟩ := h
    simp only [dVar, dC, dOp, dUn, dI0, dU, dEq, dNe, dIsN, dIxL, dIxT, dIn, dCat, dRep, dTest, dAnd, dOr, dNot, dYes, dAndV, dOrV, dNotV, dIf, dChain, dNil, dCons, dTup, dLst, dCall, dCallD, dFld, dCon, dCVal, dMeth, dProp, dMake, dMakeD, dCallO, dCB, dLen, dListOf, dTupleOf, d2I, d1I, dInt1, dDivmod, dInts, dBools, dIsi, dBM, dAppend, dNoPart, dPart, dSl, dOwn2, dOwnI, dOwnN, dEqD, dName, dgNil, dgCons, dgTup, dSub, dSetL, dNext, dSeq, dBreak, dCont, dDrop, dRet, dRetN, dIfS, dAsg, dPar, dSetF, dI, endD, startR, Option.some.injEq, Da.v.injEq, Da.tup.injEq, Da.lst.injEq, V.int.injEq, V.bl.injEq, V.str.injEq, V.ref.injEq, exists_eq_left', exists_eq_left, exists_and_left, List.cons.injEq, and_true, true_and, and_assoc, exists_eq, List.map_cons, List.map_nil, List.length_cons, List.length_nil, List.cons_append, List.nil_append, List.append_nil, List.replicate_succ, List.replicate_zero, List.getElem?_cons_succ, List.getElem?_cons_zero, List.set_cons_succ, List.set_cons_zero, List.length_map, if_true, Bool.false_eq_true, if_false, reduceIte, Nat.reduceAdd, Nat.reduceSub, Nat.zero_add, exists_const, exists_false, List.length_replicate, fzv_b, fzv_i, fzv_s, fzv_n, fzv_t, fzv_l, fzv_o, dIsiTE, dMakeL, dCMeth, dReprD, dReprL, dTruth, scal_ii, scal_ss, scal_bb, Cell.ml.injEq, Cell.mi.injEq, reduceCtorEq, Bool.true_eq_false, not_true_eq_false, not_false_eq_true, Int.natCast_nonneg, Int.ofNat_lt, Int.ofNat_le, Int.natCast_inj, isi_ii, isi_ib, isi_ss, isi_tt, sq_t, sq_l, lst_l, lstT_l, ins_o, ins_oC, fld_cons, ofStr_eq, String.reduceEq, Bool.not_true, Bool.not_false, Bool.not_eq_true', decide_eq_false_iff_not, decide_eq_true_eq, dNever, N_is_content, dsp_has_lanes]
    refine ⟨ns, c, ?_⟩
    have key : ∀ G : Mu → Prop, (∀ μ', G μ') → LcB (ns.map Da.i) G (lcStep (dName 1) dYes (dCall dsp_is_integer (dCons (dVar 1) dNil)) [1] [some x, none]) (fun d μ1 => ∃ bs, Lst μ1 d (List.map Da.b bs) ∧ Q (Da.b (bs.all id)) μ1) μ := fun G hG => by
      refine lcM (fun _ => .b true) (by have := c.2.2; rw [List.length_map]; omega) (fun _ _ => hG _) (fun i y μ' R hy _ r => ?_) (.inl ?_)
      · obtain ⟨n, rfl, _⟩ := getMap hy
        simp only [dVar, dC, dOp, dUn, dI0, dU, dEq, dNe, dIsN, dIxL, dIxT, dIn, dCat, dRep, dTest, dAnd, dOr, dNot, dYes, dAndV, dOrV, dNotV, dIf, dChain, dNil, dCons, dTup, dLst, dCall, dCallD, dFld, dCon, dCVal, dMeth, dProp, dMake, dMakeD, dCallO, dCB, dLen, dListOf, dTupleOf, d2I, d1I, dInt1, dDivmod, dInts, dBools, dIsi, dBM, dAppend, dNoPart, dPart, dSl, dOwn2, dOwnI, dOwnN, dEqD, dName, dgNil, dgCons, dgTup, dSub, dSetL, dNext, dSeq, dBreak, dCont, dDrop, dRet, dRetN, dIfS, dAsg, dPar, dSetF, dI, endD, startR, Option.some.injEq, Da.v.injEq, Da.tup.injEq, Da.lst.injEq, V.int.injEq, V.bl.injEq, V.str.injEq, V.ref.injEq, exists_eq_left', exists_eq_left, exists_and_left, List.cons.injEq, and_true, true_and, and_assoc, exists_eq, List.map_cons, List.map_nil, List.length_cons, List.length_nil, List.cons_append, List.nil_append, List.append_nil, List.replicate_succ, List.replicate_zero, List.getElem?_cons_succ, List.getElem?_cons_zero, List.set_cons_succ, List.set_cons_zero, List.length_map, if_true, Bool.false_eq_true, if_false, reduceIte, Nat.reduceAdd, Nat.reduceSub, Nat.zero_add, exists_const, exists_false, List.length_replicate, fzv_b, fzv_i, fzv_s, fzv_n, fzv_t, fzv_l, fzv_o, dIsiTE, dMakeL, dCMeth, dReprD, dReprL, dTruth, scal_ii, scal_ss, scal_bb, Cell.ml.injEq, Cell.mi.injEq, reduceCtorEq, Bool.true_eq_false, not_true_eq_false, not_false_eq_true, Int.natCast_nonneg, Int.ofNat_lt, Int.ofNat_le, Int.natCast_inj, isi_ii, isi_ib, isi_ss, isi_tt, sq_t, sq_l, lst_l, lstT_l, ins_o, ins_oC, fld_cons, ofStr_eq, String.reduceEq, Bool.not_true, Bool.not_false, Bool.not_eq_true', decide_eq_false_iff_not, decide_eq_true_eq, dNever, lcStep, wipeR, dsp_is_integer]
        exact r
      · refine ⟨List.replicate (ns.map Da.i).length true, .inl ?_, ?_⟩
        · rw [List.map_replicate, List.map_const']
        · rw [show (List.replicate (ns.map Da.i).length true).all id = true by simp]
          exact h
    rcases c.1 with rfl | rfl
    · refine ⟨by decide, .inl ⟨_, rfl, _, _, .l, trivial, ?_⟩⟩
      exact key _ fun _ => trivial
    · refine ⟨by decide, .inr ⟨_, rfl, _, rfl, ?_⟩⟩
      exact key _ fun _ => trivial
def dsp_is_lane : DSp := fun ds μ Q => ∃ i n, ds = [.i i, .i n] ∧ 0 ≤ i ∧ Q (.b (decide (i < n))) μ
theorem c_is_lane (T : Txt K mg C) : C8.Cal P w K mg base 3 "is_lane" (spD K dsp_is_lane) [] := by
  obtain ⟨f, fd, D, b⟩ := T.d_is_lane
  refine ⟨f, fd, _, [], fnD (dsp := dsp_is_lane) D.fn sc_is_lane (fun ds μ Q h => ?_) (fun cdv A outer s H E hr _ => ?_), D.mgf, D.kp, b, .nil⟩
  · obtain ⟨i, n, rfl, _⟩ := h
    rfl
  · refine ⟨_, (pss_one (ps_ret (pe_and (C8.pe_c (c_is_count T) hr (by decide) rfl (pa_cons (pv 0) pa_nil)) (pe_one (pe_cmpR op_lt (pv 0) (pv 1) (nomark _)))))), ?_⟩
    dsimp only [cxOf, Cx.nox]
    refine ⟨_, inferInstance, fun ds μ Q h => ?_⟩
    obtain ⟨i, n, rfl, h0, h⟩ := h
    simp only [dVar, dC, dOp, dUn, dI0, dU, dEq, dNe, dIsN, dIxL, dIxT, dIn, dCat, dRep, dTest, dAnd, dOr, dNot, dYes, dAndV, dOrV, dNotV, dIf, dChain, dNil, dCons, dTup, dLst, dCall, dCallD, dFld, dCon, dCVal, dMeth, dProp, dMake, dMakeD, dCallO, dCB, dLen, dListOf, dTupleOf, d2I, d1I, dInt1, dDivmod, dInts, dBools, dIsi, dBM, dAppend, dNoPart, dPart, dSl, dOwn2, dOwnI, dOwnN, dEqD, dName, dgNil, dgCons, dgTup, dSub, dSetL, dNext, dSeq, dBreak, dCont, dDrop, dRet, dRetN, dIfS, dAsg, dPar, dSetF, dI, endD, startR, Option.some.injEq, Da.v.injEq, Da.tup.injEq, Da.lst.injEq, V.int.injEq, V.bl.injEq, V.str.injEq, V.ref.injEq, exists_eq_left', exists_eq_left, exists_and_left, List.cons.injEq, and_true, true_and, and_assoc, exists_eq, List.map_cons, List.map_nil, List.length_cons, List.length_nil, List.cons_append, List.nil_append, List.append_nil, List.replicate_succ, List.replicate_zero, List.getElem?_cons_succ, List.getElem?_cons_zero, List.set_cons_succ, List.set_cons_zero, List.length_map, if_true, Bool.false_eq_true, if_false, reduceIte, Nat.reduceAdd, Nat.reduceSub, Nat.zero_add, exists_const, exists_false, List.length_replicate, fzv_b, fzv_i, fzv_s, fzv_n, fzv_t, fzv_l, fzv_o, dIsiTE, dMakeL, dCMeth, dReprD, dReprL, dTruth, scal_ii, scal_ss, scal_bb, Cell.ml.injEq, Cell.mi.injEq, reduceCtorEq, Bool.true_eq_false, not_true_eq_false, not_false_eq_true, Int.natCast_nonneg, Int.ofNat_lt, Int.ofNat_le, Int.natCast_inj, isi_ii, isi_ib, isi_ss, isi_tt, sq_t, sq_l, lst_l, lstT_l, ins_o, ins_oC, fld_cons, ofStr_eq, String.reduceEq, Bool.not_true, Bool.not_false, Bool.not_eq_true', decide_eq_false_iff_not, decide_eq_true_eq, dNever, N_is_lane, dsp_is_count, decide_eq_true_eq]
    rw [if_pos h0]
    exact h
def dsp_check_content : DSp := fun ds μ Q => ∃ x ns n, ds = [x, .i n] ∧ Ct x ns ∧ (ns.length : Int) = n ∧ Q .n μ
theorem c_check_content (T : Txt K mg C) : C8.Cal P w K mg base 4 "check_content" (spD K dsp_check_content) [] := by
  obtain ⟨f, fd, D, b⟩ := T.d_check_content
  refine ⟨f, fd, _, [], fnD (dsp := dsp_check_content) D.fn sc_check_content (fun ds μ Q h => ?_) (fun cdv A outer s H E hr _ => ?_), D.mgf, D.kp, b, .nil⟩
  · obtain ⟨x, ns, n, rfl, _⟩ := h
    rfl
  · refine ⟨_, (pss_one (ps_if (PW.pt (pw_or (pt_not (pt_val (C8.pe_c (c_is_content T) hr (by decide) rfl (pa_cons (pv 0) pa_nil)))) (pw_or1 (pt_cmpR op_ne (pe_callB call_len_seq (by rfl) T.b_len (by decide +kernel) (pa_cons (pv 0) pa_nil)) (pv 1) (nomark _)))))
       (pss_one ps_never)
       pss_nil)), ?_⟩
    dsimp only [cxOf, Cx.nox]
    refine ⟨_, inferInstance, fun ds μ Q h => ?_⟩
    obtain ⟨x, ns, n, rfl, c, hn, h⟩ := h
    simp only [dVar, dC, dOp, dUn, dI0, dU, dEq, dNe, dIsN, dIxL, dIxT, dIn, dCat, dRep, dTest, dAnd, dOr, dNot, dYes, dAndV, dOrV, dNotV, dIf, dChain, dNil, dCons, dTup, dLst, dCall, dCallD, dFld, dCon, dCVal, dMeth, dProp, dMake, dMakeD, dCallO, dCB, dLen, dListOf, dTupleOf, d2I, d1I, dInt1, dDivmod, dInts, dBools, dIsi, dBM, dAppend, dNoPart, dPart, dSl, dOwn2, dOwnI, dOwnN, dEqD, dName, dgNil, dgCons, dgTup, dSub, dSetL, dNext, dSeq, dBreak, dCont, dDrop, dRet, dRetN, dIfS, dAsg, dPar, dSetF, dI, endD, startR, Option.some.injEq, Da.v.injEq, Da.tup.injEq, Da.lst.injEq, V.int.injEq, V.bl.injEq, V.str.injEq, V.ref.injEq, exists_eq_left', exists_eq_left, exists_and_left, List.cons.injEq, and_true, true_and, and_assoc, exists_eq, List.map_cons, List.map_nil, List.length_cons, List.length_nil, List.cons_append, List.nil_append, List.append_nil, List.replicate_succ, List.replicate_zero, List.getElem?_cons_succ, List.getElem?_cons_zero, List.set_cons_succ, List.set_cons_zero, List.length_map, if_true, Bool.false_eq_true, if_false, reduceIte, Nat.reduceAdd, Nat.reduceSub, Nat.zero_add, exists_const, exists_false, List.length_replicate, fzv_b, fzv_i, fzv_s, fzv_n, fzv_t, fzv_l, fzv_o, dIsiTE, dMakeL, dCMeth, dReprD, dReprL, dTruth, scal_ii, scal_ss, scal_bb, Cell.ml.injEq, Cell.mi.injEq, reduceCtorEq, Bool.true_eq_false, not_true_eq_false, not_false_eq_true, Int.natCast_nonneg, Int.ofNat_lt, Int.ofNat_le, Int.natCast_inj, isi_ii, isi_ib, isi_ss, isi_tt, sq_t, sq_l, lst_l, lstT_l, ins_o, ins_oC, fld_cons, ofStr_eq, String.reduceEq, Bool.not_true, Bool.not_false, Bool.not_eq_true', decide_eq_false_iff_not, decide_eq_true_eq, dNever, N_check_content, dsp_is_content]
    refine ⟨ns, c, ?_⟩
    refine ⟨_, c.sq, ?_⟩
    rw [if_neg (by rw [List.length_map]; omega)]
    exact h
def dsp_check_lanes : DSp := fun ds μ Q => ∃ n k : Int, ds = [.i n, .i k] ∧ k ≤ n ∧ n ≤ 12 ∧ Q .n μ
theorem c_check_lanes (T : Txt K mg C) : C8.Cal P w K mg base 2 "check_lanes" (spD K dsp_check_lanes) [] := by
  obtain ⟨f, fd, D, b⟩ := T.d_check_lanes
  refine ⟨f, fd, _, [], fnD (dsp := dsp_check_lanes) D.fn sc_check_lanes (fun ds μ Q h => ?_) (fun cdv A outer s H E hr _ => ?_), D.mgf, D.kp, b, .nil⟩
  · obtain ⟨n, k, rfl, _⟩ := h
    rfl
  · refine ⟨_, (pss_one (ps_if (PW.pt (pw_or (pt_not (pt_val (C8.pe_c (c_is_integer T) hr (by decide) rfl (pa_cons (pv 0) pa_nil)))) (pw_or1 (pt_not (pt_chain op_le op_le (pv 1) (pv 0) (C8.pe_gc rfl T.gLANES_AT_MOST))))))
       (pss_one ps_never)
       pss_nil)), ?_⟩
    dsimp only [cxOf, Cx.nox]
    refine ⟨_, inferInstance, fun ds μ Q h => ?_⟩
    obtain ⟨n, k, rfl, h1, h2, h⟩ := h
    simp only [dVar, dC, dOp, dUn, dI0, dU, dEq, dNe, dIsN, dIxL, dIxT, dIn, dCat, dRep, dTest, dAnd, dOr, dNot, dYes, dAndV, dOrV, dNotV, dIf, dChain, dNil, dCons, dTup, dLst, dCall, dCallD, dFld, dCon, dCVal, dMeth, dProp, dMake, dMakeD, dCallO, dCB, dLen, dListOf, dTupleOf, d2I, d1I, dInt1, dDivmod, dInts, dBools, dIsi, dBM, dAppend, dNoPart, dPart, dSl, dOwn2, dOwnI, dOwnN, dEqD, dName, dgNil, dgCons, dgTup, dSub, dSetL, dNext, dSeq, dBreak, dCont, dDrop, dRet, dRetN, dIfS, dAsg, dPar, dSetF, dI, endD, startR, Option.some.injEq, Da.v.injEq, Da.tup.injEq, Da.lst.injEq, V.int.injEq, V.bl.injEq, V.str.injEq, V.ref.injEq, exists_eq_left', exists_eq_left, exists_and_left, List.cons.injEq, and_true, true_and, and_assoc, exists_eq, List.map_cons, List.map_nil, List.length_cons, List.length_nil, List.cons_append, List.nil_append, List.append_nil, List.replicate_succ, List.replicate_zero, List.getElem?_cons_succ, List.getElem?_cons_zero, List.set_cons_succ, List.set_cons_zero, List.length_map, if_true, Bool.false_eq_true, if_false, reduceIte, Nat.reduceAdd, Nat.reduceSub, Nat.zero_add, exists_const, exists_false, List.length_replicate, fzv_b, fzv_i, fzv_s, fzv_n, fzv_t, fzv_l, fzv_o, dIsiTE, dMakeL, dCMeth, dReprD, dReprL, dTruth, scal_ii, scal_ss, scal_bb, Cell.ml.injEq, Cell.mi.injEq, reduceCtorEq, Bool.true_eq_false, not_true_eq_false, not_false_eq_true, Int.natCast_nonneg, Int.ofNat_lt, Int.ofNat_le, Int.natCast_inj, isi_ii, isi_ib, isi_ss, isi_tt, sq_t, sq_l, lst_l, lstT_l, ins_o, ins_oC, fld_cons, ofStr_eq, String.reduceEq, Bool.not_true, Bool.not_false, Bool.not_eq_true', decide_eq_false_iff_not, decide_eq_true_eq, dNever, N_check_lanes, dsp_is_integer, decide_eq_true_eq]
    rw [if_pos h1, if_neg (c := ¬ n ≤ 12) (not_not_intro h2)]
    exact h
def dsp_check_many : DSp := fun ds μ Q => ∃ i, ds = [.i i] ∧ 0 ≤ i ∧ Q .n μ
theorem c_check_many (T : Txt K mg C) : C8.Cal P w K mg base 3 "check_many" (spD K dsp_check_many) [] := by
  obtain ⟨f, fd, D, b⟩ := T.d_check_many
  refine ⟨f, fd, _, [], fnD (dsp := dsp_check_many) D.fn sc_check_many (fun ds μ Q h => ?_) (fun cdv A outer s H E hr _ => ?_), D.mgf, D.kp, b, .nil⟩
  · obtain ⟨i, rfl, _⟩ := h
    rfl
  · refine ⟨_, (pss_one (ps_if (pt_not (pt_val (C8.pe_c (c_is_count T) hr (by decide) rfl (pa_cons (pv 0) pa_nil))))
       (pss_one ps_never)
       pss_nil)), ?_⟩
    dsimp only [cxOf, Cx.nox]
    refine ⟨_, inferInstance, fun ds μ Q h => ?_⟩
    obtain ⟨i, rfl, h0, h⟩ := h
    simp only [dVar, dC, dOp, dUn, dI0, dU, dEq, dNe, dIsN, dIxL, dIxT, dIn, dCat, dRep, dTest, dAnd, dOr, dNot, dYes, dAndV, dOrV, dNotV, dIf, dChain, dNil, dCons, dTup, dLst, dCall, dCallD, dFld, dCon, dCVal, dMeth, dProp, dMake, dMakeD, dCallO, dCB, dLen, dListOf, dTupleOf, d2I, d1I, dInt1, dDivmod, dInts, dBools, dIsi, dBM, dAppend, dNoPart, dPart, dSl, dOwn2, dOwnI, dOwnN, dEqD, dName, dgNil, dgCons, dgTup, dSub, dSetL, dNext, dSeq, dBreak, dCont, dDrop, dRet, dRetN, dIfS, dAsg, dPar, dSetF, dI, endD, startR, Option.some.injEq, Da.v.injEq, Da.tup.injEq, Da.lst.injEq, V.int.injEq, V.bl.injEq, V.str.injEq, V.ref.injEq, exists_eq_left', exists_eq_left, exists_and_left, List.cons.injEq, and_true, true_and, and_assoc, exists_eq, List.map_cons, List.map_nil, List.length_cons, List.length_nil, List.cons_append, List.nil_append, List.append_nil, List.replicate_succ, List.replicate_zero, List.getElem?_cons_succ, List.getElem?_cons_zero, List.set_cons_succ, List.set_cons_zero, List.length_map, if_true, Bool.false_eq_true, if_false, reduceIte, Nat.reduceAdd, Nat.reduceSub, Nat.zero_add, exists_const, exists_false, List.length_replicate, fzv_b, fzv_i, fzv_s, fzv_n, fzv_t, fzv_l, fzv_o, dIsiTE, dMakeL, dCMeth, dReprD, dReprL, dTruth, scal_ii, scal_ss, scal_bb, Cell.ml.injEq, Cell.mi.injEq, reduceCtorEq, Bool.true_eq_false, not_true_eq_false, not_false_eq_true, Int.natCast_nonneg, Int.ofNat_lt, Int.ofNat_le, Int.natCast_inj, isi_ii, isi_ib, isi_ss, isi_tt, sq_t, sq_l, lst_l, lstT_l, ins_o, ins_oC, fld_cons, ofStr_eq, String.reduceEq, Bool.not_true, Bool.not_false, Bool.not_eq_true', decide_eq_false_iff_not, decide_eq_true_eq, dNever, N_check_many, dsp_is_count]
    rw [if_neg (by omega)]
    exact h
end
end LL

set_option synthInstance.maxSize 100000
set_option synthInstance.maxHeartbeats 4000000
namespace LL
open PySem L2 PySem.Spec PyProof.Rows
/-! ### gates, as data -/
inductive Gt where
  | low (i j : Nat) | high (i j : Nat) | sort (i j : Nat) | copy (i j : Nat) | add (i : Nat) (c : Int)
def Gt.vs : Gt → List V
  | .low i j => [.str "low", .int i, .int j]
  | .high i j => [.str "high", .int i, .int j]
  | .sort i j => [.str "sort", .int i, .int j]
  | .copy i j => [.str "copy", .int i, .int j]
  | .add i c => [.str "add", .int i, .int c]
def Gt.da (g : Gt) : Da := .tup (g.vs.map Da.v)
def Gt.ok (n : Nat) : Gt → Prop
  | .low i j => i < n ∧ j < n ∧ i ≠ j
  | .high i j => i < n ∧ j < n ∧ i ≠ j
  | .sort i j => i < n ∧ j < n ∧ i ≠ j
  | .copy i j => i < n ∧ j < n ∧ i ≠ j
  | .add i _ => i < n
def at0 (ns : List Int) (i : Nat) : Int := ns.getD i 0
def mn (a b : Int) : Int := if b < a then b else a
def mx (a b : Int) : Int := if b > a then b else a
def Gt.done : Gt → List Int → List Int
  | .low i j, ns => ns.set i (mn (at0 ns i) (at0 ns j))
  | .high i j, ns => ns.set i (mx (at0 ns i) (at0 ns j))
  | .sort i j, ns => (ns.set i (mn (at0 ns i) (at0 ns j))).set j (mx (at0 ns i) (at0 ns j))
  | .copy i j, ns => ns.set i (at0 ns j)
  | .add i c, ns => ns.set i (at0 ns i + c)
theorem done_length (g : Gt) (ns : List Int) : (g.done ns).length = ns.length := by
  cases g <;> simp [Gt.done]
def runs (gs : List Gt) (ns : List Int) : List Int := gs.foldl (fun x g => g.done x) ns
theorem runs_length : ∀ (gs : List Gt) (ns : List Int), (runs gs ns).length = ns.length
  | [], _ => rfl
  | g :: r, ns => by
    show (runs r (g.done ns)).length = _
    rw [runs_length r, done_length]
/-- the contents ahead of all gates and behind each -/
def rowsOf (gs : List Gt) (ns : List Int) : List (List Int) := (List.range (gs.length + 1)).map fun k => runs (gs.take k) ns
theorem runs_take_succ {gs : List Gt} {ns : List Int} {i : Nat} {g : Gt} (h : gs[i]? = some g) : runs (gs.take (i + 1)) ns = g.done (runs (gs.take i) ns) := by
  rw [List.take_add_one, h]
  unfold runs
  rw [List.foldl_append]
  rfl
theorem ixN_nat {n i : Nat} (h : i < n) : ixN n (i : Int) = some i := by
  unfold ixN
  rw [if_pos (by omega), if_pos (by omega)]
  simp
theorem at_int {ns : List Int} {i : Nat} (h : i < ns.length) : atI (ns.map Da.i) (i : Int) = some (.i (at0 ns i)) := by
  unfold atI
  rw [ixN_nat (by rw [List.length_map]; exact h)]
  show (ns.map Da.i)[i]? = some (Da.i (ns.getD i 0))
  rw [List.getElem?_map, List.getD_eq_getElem?_getD, List.getElem?_eq_getElem h]
  rfl
theorem atI_nat' {α : Type} {xs : List α} {i : Nat} {x : α} (h : xs[i]? = some x) : atI xs (i : Int) = some x := by
  unfold atI
  rw [ixN_nat (List.getElem?_eq_some_iff.mp h).1]
  exact h
theorem Lst.set {μ : Mu} {y : Da} {ds : List Da} {p : Addr} {c : Cell} (h : Lst μ y ds) (hp : μ p = none) : Lst (setM μ p c) y ds := by
  rcases h with h | h | ⟨b, h, e⟩
  · exact .inl h
  · exact .inr (.inl h)
  · exact .inr (.inr ⟨b, h, by rw [setM_ne fun z => by rw [z, hp] at e; cases e]; exact e⟩)
theorem Lst.set2 {μ : Mu} {y : Da} {ds : List Da} {p : Addr} {c : Cell} (h : Lst μ y ds) (hp : μ p = none) : Lst (setM μ p c) y ds := h.set hp
theorem lst_at {μ : Mu} {y : Da} {ds : List Da} {F : List Da → Prop} (h : Lst μ y ds) (f : F ds) : ∃ x, Lst μ y x ∧ F x := ⟨ds, h, f⟩
theorem map_set_i (ns : List Int) (i : Nat) (z : Int) : (ns.map Da.i).set i (.i z) = (ns.set i z).map Da.i := by
  rw [List.map_set]
section
variable {P : Program} {w : World} {K : PySem.W.Frag} {mg : Str → Option Value} {base : Heap} {C : Addr}
def dsp_is_gate : DSp := fun ds μ Q => ∃ (g : Gt) (n : Nat), ds = [g.da, .i n] ∧ g.ok n ∧ Q (.b true) μ
theorem c_is_gate (T : Txt K mg C) : C8.Cal P w K mg base 4 "is_gate" (spD K dsp_is_gate) [] := by
  obtain ⟨f, fd, D, b⟩ := T.d_is_gate
  refine ⟨f, fd, _, [], fnD (dsp := dsp_is_gate) D.fn sc_is_gate (fun ds μ Q h => ?_) (fun cdv A outer s H E hr _ => ?_), D.mgf, D.kp, b, .nil⟩
  · obtain ⟨g, n, rfl, _⟩ := h
    rfl
  · obtain ⟨aT, mgT, hT⟩ := T.gTWO
    refine ⟨_, (pss_cons (ps_if (PW.pt (pw_or (pt_not (pt_val (pe_callB call_isi (by rfl) T.b_isinstance (by decide +kernel) (pa_cons (pv 0) (pa_cons (pe_bltn (v := .ty "tuple") (by rfl) T.b_tuple (by decide +kernel) rfl) pa_nil))))) (pw_or1 (pt_cmpR op_ne (pe_callB call_len_seq (by rfl) T.b_len (by decide +kernel) (pa_cons (pv 0) pa_nil)) pe_int (nomark _)))))
       (pss_one (ps_ret pe_bl))
       pss_nil)
      (pss_cons (ps_asg (pv 0) (pg_tup (n := 3) rfl (pgs_cons (pg_name (i := 2) sc_is_gate.nd rfl (Or.inl rfl)) (pgs_cons (pg_name (i := 3) sc_is_gate.nd rfl (Or.inl rfl)) (pgs_cons (pg_name (i := 4) sc_is_gate.nd rfl (Or.inl rfl)) pgs_nil)))))
      (pss_cons (ps_if (PW.pt (pw_or (pt_not (pt_val (pe_callB call_isi (by rfl) T.b_isinstance (by decide +kernel) (pa_cons (pv 2) (pa_cons (pe_bltn (v := .ty "str") (by rfl) T.b_str (by decide +kernel) rfl) pa_nil))))) (pw_or1 (pt_not (pt_val (C8.pe_c (c_is_lane T) hr (by decide) rfl (pa_cons (pv 3) (pa_cons (pv 1) pa_nil))))))))
       (pss_one (ps_ret pe_bl))
       pss_nil)
      (pss_cons (ps_if (pt_cmpR op_eq (pv 2) pe_str (nomark _))
       (pss_one (ps_ret (C8.pe_c (c_is_integer T) hr (by decide) rfl (pa_cons (pv 4) pa_nil))))
       pss_nil)
      (pss_one (ps_ret (pe_and (pe_cmpR op_in_seq (pv 2) (C8.pe_gc (v := .ref aT) rfl ⟨_, mgT, rfl⟩) (by rfl)) (pe_and (C8.pe_c (c_is_lane T) hr (by decide) rfl (pa_cons (pv 4) (pa_cons (pv 1) pa_nil))) (pe_one (pe_cmpR op_ne (pv 4) (pv 3) (nomark _))))))))))), ?_⟩
    dsimp only [cxOf, Cx.nox]
    refine ⟨_, inferInstance, fun ds μ Q h => ?_⟩
    obtain ⟨g, n, rfl, ho, h⟩ := h
    have hW : ∀ I : Hp, At K I (.ref aT) (.tup ([V.str "low", V.str "high", V.str "sort", V.str "copy"].map Da.v)) := fun I => .tup (hT I) (AtAll.ofV _)
    cases g with
    | add i c =>
      simp only [dVar, dC, dOp, dUn, dI0, dU, dEq, dNe, dIsN, dIxL, dIxT, dIn, dCat, dRep, dTest, dAnd, dOr, dNot, dYes, dAndV, dOrV, dNotV, dIf, dChain, dNil, dCons, dTup, dLst, dCall, dCallD, dFld, dCon, dCVal, dMeth, dProp, dMake, dMakeD, dCallO, dCB, dLen, dListOf, dTupleOf, d2I, d1I, dInt1, dDivmod, dInts, dBools, dIsi, dBM, dAppend, dNoPart, dPart, dSl, dOwn2, dOwnI, dOwnN, dEqD, dName, dgNil, dgCons, dgTup, dSub, dSetL, dNext, dSeq, dBreak, dCont, dDrop, dRet, dRetN, dIfS, dAsg, dPar, dSetF, dI, endD, startR, Option.some.injEq, Da.v.injEq, Da.tup.injEq, Da.lst.injEq, V.int.injEq, V.bl.injEq, V.str.injEq, V.ref.injEq, exists_eq_left', exists_eq_left, exists_and_left, List.cons.injEq, and_true, true_and, and_assoc, exists_eq, List.map_cons, List.map_nil, List.length_cons, List.length_nil, List.cons_append, List.nil_append, List.append_nil, List.replicate_succ, List.replicate_zero, List.getElem?_cons_succ, List.getElem?_cons_zero, List.set_cons_succ, List.set_cons_zero, List.length_map, if_true, Bool.false_eq_true, if_false, reduceIte, Nat.reduceAdd, Nat.reduceSub, Nat.zero_add, exists_const, exists_false, List.length_replicate, fzv_b, fzv_i, fzv_s, fzv_n, fzv_t, fzv_l, fzv_o, dIsiTE, dMakeL, dCMeth, dReprD, dReprL, dTruth, scal_ii, scal_ss, scal_bb, Cell.ml.injEq, Cell.mi.injEq, reduceCtorEq, Bool.true_eq_false, not_true_eq_false, not_false_eq_true, Int.natCast_nonneg, Int.ofNat_lt, Int.ofNat_le, Int.natCast_inj, isi_ii, isi_ib, isi_ss, isi_tt, sq_t, sq_l, lst_l, lstT_l, ins_o, ins_oC, fld_cons, ofStr_eq, String.reduceEq, Bool.not_true, Bool.not_false, Bool.not_eq_true', decide_eq_false_iff_not, decide_eq_true_eq, dNever, N_is_gate, Gt.da, Gt.vs, dsp_is_lane, dsp_is_integer]
      rw [if_neg (c := ¬ ((3 : Nat) : Int) = 3) (by decide), if_neg (c := ¬ i < n) (not_not_intro ho)]
      exact h
    | _ i j =>
      obtain ⟨hi, hj, hij⟩ := ho
      simp only [dVar, dC, dOp, dUn, dI0, dU, dEq, dNe, dIsN, dIxL, dIxT, dIn, dCat, dRep, dTest, dAnd, dOr, dNot, dYes, dAndV, dOrV, dNotV, dIf, dChain, dNil, dCons, dTup, dLst, dCall, dCallD, dFld, dCon, dCVal, dMeth, dProp, dMake, dMakeD, dCallO, dCB, dLen, dListOf, dTupleOf, d2I, d1I, dInt1, dDivmod, dInts, dBools, dIsi, dBM, dAppend, dNoPart, dPart, dSl, dOwn2, dOwnI, dOwnN, dEqD, dName, dgNil, dgCons, dgTup, dSub, dSetL, dNext, dSeq, dBreak, dCont, dDrop, dRet, dRetN, dIfS, dAsg, dPar, dSetF, dI, endD, startR, Option.some.injEq, Da.v.injEq, Da.tup.injEq, Da.lst.injEq, V.int.injEq, V.bl.injEq, V.str.injEq, V.ref.injEq, exists_eq_left', exists_eq_left, exists_and_left, List.cons.injEq, and_true, true_and, and_assoc, exists_eq, List.map_cons, List.map_nil, List.length_cons, List.length_nil, List.cons_append, List.nil_append, List.append_nil, List.replicate_succ, List.replicate_zero, List.getElem?_cons_succ, List.getElem?_cons_zero, List.set_cons_succ, List.set_cons_zero, List.length_map, if_true, Bool.false_eq_true, if_false, reduceIte, Nat.reduceAdd, Nat.reduceSub, Nat.zero_add, exists_const, exists_false, List.length_replicate, fzv_b, fzv_i, fzv_s, fzv_n, fzv_t, fzv_l, fzv_o, dIsiTE, dMakeL, dCMeth, dReprD, dReprL, dTruth, scal_ii, scal_ss, scal_bb, Cell.ml.injEq, Cell.mi.injEq, reduceCtorEq, Bool.true_eq_false, not_true_eq_false, not_false_eq_true, Int.natCast_nonneg, Int.ofNat_lt, Int.ofNat_le, Int.natCast_inj, isi_ii, isi_ib, isi_ss, isi_tt, sq_t, sq_l, lst_l, lstT_l, ins_o, ins_oC, fld_cons, ofStr_eq, String.reduceEq, Bool.not_true, Bool.not_false, Bool.not_eq_true', decide_eq_false_iff_not, decide_eq_true_eq, dNever, N_is_gate, Gt.da, Gt.vs, dsp_is_lane, dsp_is_integer]
      rw [if_neg (c := ¬ ((3 : Nat) : Int) = 3) (by decide), if_neg (c := ¬ i < n) (not_not_intro hi)]
      refine .inr ⟨_, hW, [V.str "low", V.str "high", V.str "sort", V.str "copy"], .t, rfl, rfl, ?_⟩
      rw [if_pos (by decide +kernel), if_pos hj, decide_eq_false (fun z => hij z.symm)]
      exact h
def dsp_behind_gate : DSp := fun ds μ Q => ∃ (g : Gt) (y : Da) (ns : List Int), ds = [g.da, y] ∧ Lst μ y (ns.map Da.i) ∧ g.ok ns.length ∧ NewL ((g.done ns).map Da.i) μ Q
theorem c_behind_gate (T : Txt K mg C) : C8.Cal P w K mg base 1 "behind_gate" (spD K dsp_behind_gate) [] := by
  obtain ⟨f, fd, D, b⟩ := T.d_behind_gate
  refine ⟨f, fd, _, [], fnD (dsp := dsp_behind_gate) D.fn sc_behind_gate (fun ds μ Q h => ?_) (fun cdv A outer s H E hr _ => ?_), D.mgf, D.kp, b, .nil⟩
  · obtain ⟨g, n, ns, rfl, _⟩ := h
    rfl
  · refine ⟨_, (pss_cons (ps_asg (pv 0) (pg_tup (n := 3) rfl (pgs_cons (pg_name (i := 2) sc_behind_gate.nd rfl (Or.inl rfl)) (pgs_cons (pg_name (i := 3) sc_behind_gate.nd rfl (Or.inl rfl)) (pgs_cons (pg_name (i := 4) sc_behind_gate.nd rfl (Or.inl rfl)) pgs_nil)))))
      (pss_cons (ps_set (i := 5) sc_behind_gate.nd rfl (Or.inl rfl) (pe_callTy call_list_of (by rfl) T.b_list (by decide +kernel) (pa_cons (pv 1) pa_nil)))
      (pss_cons (ps_if (pt_cmpR op_eq (pv 2) pe_str (nomark _))
       (pss_one (ps_asg (pe_op op_add (pe_ix ix_list (pv 1) (pv 3) (fun _ _ => rfl)) (pv 4)) (pg_sub (pv 5) (pv 3) set_list)))
       (pss_one (ps_if (pt_cmpR op_eq (pv 2) pe_str (nomark _))
         (pss_one (ps_asg (pe_ix ix_list (pv 1) (pv 4) (fun _ _ => rfl)) (pg_sub (pv 5) (pv 3) set_list)))
         (pss_one (ps_if (pt_cmpR op_eq (pv 2) pe_str (nomark _))
           (pss_one (ps_asg (pe_callB (call_min2 rfl) (by rfl) T.b_min (by decide +kernel) (pa_cons (pe_ix ix_list (pv 1) (pv 3) (fun _ _ => rfl)) (pa_cons (pe_ix ix_list (pv 1) (pv 4) (fun _ _ => rfl)) pa_nil))) (pg_sub (pv 5) (pv 3) set_list)))
           (pss_one (ps_if (pt_cmpR op_eq (pv 2) pe_str (nomark _))
             (pss_one (ps_asg (pe_callB (call_max2 rfl) (by rfl) T.b_max (by decide +kernel) (pa_cons (pe_ix ix_list (pv 1) (pv 3) (fun _ _ => rfl)) (pa_cons (pe_ix ix_list (pv 1) (pv 4) (fun _ _ => rfl)) pa_nil))) (pg_sub (pv 5) (pv 3) set_list)))
             (pss_cons (ps_asg (pe_callB (call_min2 rfl) (by rfl) T.b_min (by decide +kernel) (pa_cons (pe_ix ix_list (pv 1) (pv 3) (fun _ _ => rfl)) (pa_cons (pe_ix ix_list (pv 1) (pv 4) (fun _ _ => rfl)) pa_nil))) (pg_sub (pv 5) (pv 3) set_list))
              (pss_one (ps_asg (pe_callB (call_max2 rfl) (by rfl) T.b_max (by decide +kernel) (pa_cons (pe_ix ix_list (pv 1) (pv 3) (fun _ _ => rfl)) (pa_cons (pe_ix ix_list (pv 1) (pv 4) (fun _ _ => rfl)) pa_nil))) (pg_sub (pv 5) (pv 4) set_list)))))))))))
      (pss_one (ps_ret (pv 5)))))), ?_⟩
    dsimp only [cxOf, Cx.nox]
    refine ⟨_, inferInstance, fun ds μ Q h => ?_⟩
    obtain ⟨g, y, ns, rfl, hy, ho, h⟩ := h
    have il : ∀ {i : Nat}, i < ns.length → ixN (ns.map Da.i).length (i : Int) = some i := fun hi => ixN_nat (by rw [List.length_map]; exact hi)
    have rd : ∀ {p : Addr} {c : Cell} {i : Nat} {F : Int → Mu → Prop}, μ p = none → i < ns.length → F (at0 ns i) (setM μ p c) → dIxL y (.i i) (setM μ p c) fun d μ' => ∃ n, d = .i n ∧ F n μ' := fun hp hi f => ⟨_, _, _, hy.set hp, rfl, at_int hi, _, rfl, f⟩
    cases g with
    | add i c =>
      have hi : i < ns.length := ho
      simp only [dVar, dC, dOp, dUn, dI0, dU, dEq, dNe, dIsN, dIxL, dIxT, dIn, dCat, dRep, dTest, dAnd, dOr, dNot, dYes, dAndV, dOrV, dNotV, dIf, dChain, dNil, dCons, dTup, dLst, dCall, dCallD, dFld, dCon, dCVal, dMeth, dProp, dMake, dMakeD, dCallO, dCB, dLen, dListOf, dTupleOf, d2I, d1I, dInt1, dDivmod, dInts, dBools, dIsi, dBM, dAppend, dNoPart, dPart, dSl, dOwn2, dOwnI, dOwnN, dEqD, dName, dgNil, dgCons, dgTup, dSub, dSetL, dNext, dSeq, dBreak, dCont, dDrop, dRet, dRetN, dIfS, dAsg, dPar, dSetF, dI, endD, startR, Option.some.injEq, Da.v.injEq, Da.tup.injEq, Da.lst.injEq, V.int.injEq, V.bl.injEq, V.str.injEq, V.ref.injEq, exists_eq_left', exists_eq_left, exists_and_left, List.cons.injEq, and_true, true_and, and_assoc, exists_eq, List.map_cons, List.map_nil, List.length_cons, List.length_nil, List.cons_append, List.nil_append, List.append_nil, List.replicate_succ, List.replicate_zero, List.getElem?_cons_succ, List.getElem?_cons_zero, List.set_cons_succ, List.set_cons_zero, List.length_map, if_true, Bool.false_eq_true, if_false, reduceIte, Nat.reduceAdd, Nat.reduceSub, Nat.zero_add, exists_const, exists_false, List.length_replicate, fzv_b, fzv_i, fzv_s, fzv_n, fzv_t, fzv_l, fzv_o, dIsiTE, dMakeL, dCMeth, dReprD, dReprL, dTruth, scal_ii, scal_ss, scal_bb, Cell.ml.injEq, Cell.mi.injEq, reduceCtorEq, Bool.true_eq_false, not_true_eq_false, not_false_eq_true, Int.natCast_nonneg, Int.ofNat_lt, Int.ofNat_le, Int.natCast_inj, isi_ii, isi_ib, isi_ss, isi_tt, sq_t, sq_l, lst_l, lstT_l, ins_o, ins_oC, fld_cons, ofStr_eq, String.reduceEq, Bool.not_true, Bool.not_false, Bool.not_eq_true', decide_eq_false_iff_not, decide_eq_true_eq, dNever, N_behind_gate, Gt.da, Gt.vs]
      refine ⟨_, .inl hy, .inr fun p hp => ?_⟩
      simp only [dVar, dC, dOp, dUn, dI0, dU, dEq, dNe, dIsN, dIxL, dIxT, dIn, dCat, dRep, dTest, dAnd, dOr, dNot, dYes, dAndV, dOrV, dNotV, dIf, dChain, dNil, dCons, dTup, dLst, dCall, dCallD, dFld, dCon, dCVal, dMeth, dProp, dMake, dMakeD, dCallO, dCB, dLen, dListOf, dTupleOf, d2I, d1I, dInt1, dDivmod, dInts, dBools, dIsi, dBM, dAppend, dNoPart, dPart, dSl, dOwn2, dOwnI, dOwnN, dEqD, dName, dgNil, dgCons, dgTup, dSub, dSetL, dNext, dSeq, dBreak, dCont, dDrop, dRet, dRetN, dIfS, dAsg, dPar, dSetF, dI, endD, startR, Option.some.injEq, Da.v.injEq, Da.tup.injEq, Da.lst.injEq, V.int.injEq, V.bl.injEq, V.str.injEq, V.ref.injEq, exists_eq_left', exists_eq_left, exists_and_left, List.cons.injEq, and_true, true_and, and_assoc, exists_eq, List.map_cons, List.map_nil, List.length_cons, List.length_nil, List.cons_append, List.nil_append, List.append_nil, List.replicate_succ, List.replicate_zero, List.getElem?_cons_succ, List.getElem?_cons_zero, List.set_cons_succ, List.set_cons_zero, List.length_map, if_true, Bool.false_eq_true, if_false, reduceIte, Nat.reduceAdd, Nat.reduceSub, Nat.zero_add, exists_const, exists_false, List.length_replicate, fzv_b, fzv_i, fzv_s, fzv_n, fzv_t, fzv_l, fzv_o, dIsiTE, dMakeL, dCMeth, dReprD, dReprL, dTruth, scal_ii, scal_ss, scal_bb, Cell.ml.injEq, Cell.mi.injEq, reduceCtorEq, Bool.true_eq_false, not_true_eq_false, not_false_eq_true, Int.natCast_nonneg, Int.ofNat_lt, Int.ofNat_le, Int.natCast_inj, isi_ii, isi_ib, isi_ss, isi_tt, sq_t, sq_l, lst_l, lstT_l, ins_o, ins_oC, fld_cons, ofStr_eq, String.reduceEq, Bool.not_true, Bool.not_false, Bool.not_eq_true', decide_eq_false_iff_not, decide_eq_true_eq, dNever]
      refine ⟨_, hy.set hp, _, at_int hi, _, rfl, ?_⟩
      simp only [dVar, dC, dOp, dUn, dI0, dU, dEq, dNe, dIsN, dIxL, dIxT, dIn, dCat, dRep, dTest, dAnd, dOr, dNot, dYes, dAndV, dOrV, dNotV, dIf, dChain, dNil, dCons, dTup, dLst, dCall, dCallD, dFld, dCon, dCVal, dMeth, dProp, dMake, dMakeD, dCallO, dCB, dLen, dListOf, dTupleOf, d2I, d1I, dInt1, dDivmod, dInts, dBools, dIsi, dBM, dAppend, dNoPart, dPart, dSl, dOwn2, dOwnI, dOwnN, dEqD, dName, dgNil, dgCons, dgTup, dSub, dSetL, dNext, dSeq, dBreak, dCont, dDrop, dRet, dRetN, dIfS, dAsg, dPar, dSetF, dI, endD, startR, Option.some.injEq, Da.v.injEq, Da.tup.injEq, Da.lst.injEq, V.int.injEq, V.bl.injEq, V.str.injEq, V.ref.injEq, exists_eq_left', exists_eq_left, exists_and_left, List.cons.injEq, and_true, true_and, and_assoc, exists_eq, List.map_cons, List.map_nil, List.length_cons, List.length_nil, List.cons_append, List.nil_append, List.append_nil, List.replicate_succ, List.replicate_zero, List.getElem?_cons_succ, List.getElem?_cons_zero, List.set_cons_succ, List.set_cons_zero, List.length_map, if_true, Bool.false_eq_true, if_false, reduceIte, Nat.reduceAdd, Nat.reduceSub, Nat.zero_add, exists_const, exists_false, List.length_replicate, fzv_b, fzv_i, fzv_s, fzv_n, fzv_t, fzv_l, fzv_o, dIsiTE, dMakeL, dCMeth, dReprD, dReprL, dTruth, scal_ii, scal_ss, scal_bb, Cell.ml.injEq, Cell.mi.injEq, reduceCtorEq, Bool.true_eq_false, not_true_eq_false, not_false_eq_true, Int.natCast_nonneg, Int.ofNat_lt, Int.ofNat_le, Int.natCast_inj, isi_ii, isi_ib, isi_ss, isi_tt, sq_t, sq_l, lst_l, lstT_l, ins_o, ins_oC, fld_cons, ofStr_eq, String.reduceEq, Bool.not_true, Bool.not_false, Bool.not_eq_true', decide_eq_false_iff_not, decide_eq_true_eq, dNever, setM_at, setM_setM, ixN_nat hi, map_set_i, List.length_map]
      exact fzv_newL hp h
    | copy i j =>
      obtain ⟨hi, hj, hij⟩ := ho
      simp only [dVar, dC, dOp, dUn, dI0, dU, dEq, dNe, dIsN, dIxL, dIxT, dIn, dCat, dRep, dTest, dAnd, dOr, dNot, dYes, dAndV, dOrV, dNotV, dIf, dChain, dNil, dCons, dTup, dLst, dCall, dCallD, dFld, dCon, dCVal, dMeth, dProp, dMake, dMakeD, dCallO, dCB, dLen, dListOf, dTupleOf, d2I, d1I, dInt1, dDivmod, dInts, dBools, dIsi, dBM, dAppend, dNoPart, dPart, dSl, dOwn2, dOwnI, dOwnN, dEqD, dName, dgNil, dgCons, dgTup, dSub, dSetL, dNext, dSeq, dBreak, dCont, dDrop, dRet, dRetN, dIfS, dAsg, dPar, dSetF, dI, endD, startR, Option.some.injEq, Da.v.injEq, Da.tup.injEq, Da.lst.injEq, V.int.injEq, V.bl.injEq, V.str.injEq, V.ref.injEq, exists_eq_left', exists_eq_left, exists_and_left, List.cons.injEq, and_true, true_and, and_assoc, exists_eq, List.map_cons, List.map_nil, List.length_cons, List.length_nil, List.cons_append, List.nil_append, List.append_nil, List.replicate_succ, List.replicate_zero, List.getElem?_cons_succ, List.getElem?_cons_zero, List.set_cons_succ, List.set_cons_zero, List.length_map, if_true, Bool.false_eq_true, if_false, reduceIte, Nat.reduceAdd, Nat.reduceSub, Nat.zero_add, exists_const, exists_false, List.length_replicate, fzv_b, fzv_i, fzv_s, fzv_n, fzv_t, fzv_l, fzv_o, dIsiTE, dMakeL, dCMeth, dReprD, dReprL, dTruth, scal_ii, scal_ss, scal_bb, Cell.ml.injEq, Cell.mi.injEq, reduceCtorEq, Bool.true_eq_false, not_true_eq_false, not_false_eq_true, Int.natCast_nonneg, Int.ofNat_lt, Int.ofNat_le, Int.natCast_inj, isi_ii, isi_ib, isi_ss, isi_tt, sq_t, sq_l, lst_l, lstT_l, ins_o, ins_oC, fld_cons, ofStr_eq, String.reduceEq, Bool.not_true, Bool.not_false, Bool.not_eq_true', decide_eq_false_iff_not, decide_eq_true_eq, dNever, N_behind_gate, Gt.da, Gt.vs]
      refine ⟨_, .inl hy, .inr fun p hp => ?_⟩
      refine ⟨_, hy.set hp, _, at_int hj, ?_⟩
      simp only [dVar, dC, dOp, dUn, dI0, dU, dEq, dNe, dIsN, dIxL, dIxT, dIn, dCat, dRep, dTest, dAnd, dOr, dNot, dYes, dAndV, dOrV, dNotV, dIf, dChain, dNil, dCons, dTup, dLst, dCall, dCallD, dFld, dCon, dCVal, dMeth, dProp, dMake, dMakeD, dCallO, dCB, dLen, dListOf, dTupleOf, d2I, d1I, dInt1, dDivmod, dInts, dBools, dIsi, dBM, dAppend, dNoPart, dPart, dSl, dOwn2, dOwnI, dOwnN, dEqD, dName, dgNil, dgCons, dgTup, dSub, dSetL, dNext, dSeq, dBreak, dCont, dDrop, dRet, dRetN, dIfS, dAsg, dPar, dSetF, dI, endD, startR, Option.some.injEq, Da.v.injEq, Da.tup.injEq, Da.lst.injEq, V.int.injEq, V.bl.injEq, V.str.injEq, V.ref.injEq, exists_eq_left', exists_eq_left, exists_and_left, List.cons.injEq, and_true, true_and, and_assoc, exists_eq, List.map_cons, List.map_nil, List.length_cons, List.length_nil, List.cons_append, List.nil_append, List.append_nil, List.replicate_succ, List.replicate_zero, List.getElem?_cons_succ, List.getElem?_cons_zero, List.set_cons_succ, List.set_cons_zero, List.length_map, if_true, Bool.false_eq_true, if_false, reduceIte, Nat.reduceAdd, Nat.reduceSub, Nat.zero_add, exists_const, exists_false, List.length_replicate, fzv_b, fzv_i, fzv_s, fzv_n, fzv_t, fzv_l, fzv_o, dIsiTE, dMakeL, dCMeth, dReprD, dReprL, dTruth, scal_ii, scal_ss, scal_bb, Cell.ml.injEq, Cell.mi.injEq, reduceCtorEq, Bool.true_eq_false, not_true_eq_false, not_false_eq_true, Int.natCast_nonneg, Int.ofNat_lt, Int.ofNat_le, Int.natCast_inj, isi_ii, isi_ib, isi_ss, isi_tt, sq_t, sq_l, lst_l, lstT_l, ins_o, ins_oC, fld_cons, ofStr_eq, String.reduceEq, Bool.not_true, Bool.not_false, Bool.not_eq_true', decide_eq_false_iff_not, decide_eq_true_eq, dNever, setM_at, setM_setM, ixN_nat hi, map_set_i, List.length_map]
      exact fzv_newL hp h
    | sort i j =>
      obtain ⟨hi, hj, hij⟩ := ho
      simp only [dVar, dC, dOp, dUn, dI0, dU, dEq, dNe, dIsN, dIxL, dIxT, dIn, dCat, dRep, dTest, dAnd, dOr, dNot, dYes, dAndV, dOrV, dNotV, dIf, dChain, dNil, dCons, dTup, dLst, dCall, dCallD, dFld, dCon, dCVal, dMeth, dProp, dMake, dMakeD, dCallO, dCB, dLen, dListOf, dTupleOf, d2I, d1I, dInt1, dDivmod, dInts, dBools, dIsi, dBM, dAppend, dNoPart, dPart, dSl, dOwn2, dOwnI, dOwnN, dEqD, dName, dgNil, dgCons, dgTup, dSub, dSetL, dNext, dSeq, dBreak, dCont, dDrop, dRet, dRetN, dIfS, dAsg, dPar, dSetF, dI, endD, startR, Option.some.injEq, Da.v.injEq, Da.tup.injEq, Da.lst.injEq, V.int.injEq, V.bl.injEq, V.str.injEq, V.ref.injEq, exists_eq_left', exists_eq_left, exists_and_left, List.cons.injEq, and_true, true_and, and_assoc, exists_eq, List.map_cons, List.map_nil, List.length_cons, List.length_nil, List.cons_append, List.nil_append, List.append_nil, List.replicate_succ, List.replicate_zero, List.getElem?_cons_succ, List.getElem?_cons_zero, List.set_cons_succ, List.set_cons_zero, List.length_map, if_true, Bool.false_eq_true, if_false, reduceIte, Nat.reduceAdd, Nat.reduceSub, Nat.zero_add, exists_const, exists_false, List.length_replicate, fzv_b, fzv_i, fzv_s, fzv_n, fzv_t, fzv_l, fzv_o, dIsiTE, dMakeL, dCMeth, dReprD, dReprL, dTruth, scal_ii, scal_ss, scal_bb, Cell.ml.injEq, Cell.mi.injEq, reduceCtorEq, Bool.true_eq_false, not_true_eq_false, not_false_eq_true, Int.natCast_nonneg, Int.ofNat_lt, Int.ofNat_le, Int.natCast_inj, isi_ii, isi_ib, isi_ss, isi_tt, sq_t, sq_l, lst_l, lstT_l, ins_o, ins_oC, fld_cons, ofStr_eq, String.reduceEq, Bool.not_true, Bool.not_false, Bool.not_eq_true', decide_eq_false_iff_not, decide_eq_true_eq, dNever, N_behind_gate, Gt.da, Gt.vs]
      refine ⟨_, .inl hy, .inr fun p hp => ?_⟩
      refine ⟨_, hy.set hp, _, at_int hi, _, hy.set hp, _, at_int hj, _, rfl, _, rfl, ?_⟩
      simp only [dVar, dC, dOp, dUn, dI0, dU, dEq, dNe, dIsN, dIxL, dIxT, dIn, dCat, dRep, dTest, dAnd, dOr, dNot, dYes, dAndV, dOrV, dNotV, dIf, dChain, dNil, dCons, dTup, dLst, dCall, dCallD, dFld, dCon, dCVal, dMeth, dProp, dMake, dMakeD, dCallO, dCB, dLen, dListOf, dTupleOf, d2I, d1I, dInt1, dDivmod, dInts, dBools, dIsi, dBM, dAppend, dNoPart, dPart, dSl, dOwn2, dOwnI, dOwnN, dEqD, dName, dgNil, dgCons, dgTup, dSub, dSetL, dNext, dSeq, dBreak, dCont, dDrop, dRet, dRetN, dIfS, dAsg, dPar, dSetF, dI, endD, startR, Option.some.injEq, Da.v.injEq, Da.tup.injEq, Da.lst.injEq, V.int.injEq, V.bl.injEq, V.str.injEq, V.ref.injEq, exists_eq_left', exists_eq_left, exists_and_left, List.cons.injEq, and_true, true_and, and_assoc, exists_eq, List.map_cons, List.map_nil, List.length_cons, List.length_nil, List.cons_append, List.nil_append, List.append_nil, List.replicate_succ, List.replicate_zero, List.getElem?_cons_succ, List.getElem?_cons_zero, List.set_cons_succ, List.set_cons_zero, List.length_map, if_true, Bool.false_eq_true, if_false, reduceIte, Nat.reduceAdd, Nat.reduceSub, Nat.zero_add, exists_const, exists_false, List.length_replicate, fzv_b, fzv_i, fzv_s, fzv_n, fzv_t, fzv_l, fzv_o, dIsiTE, dMakeL, dCMeth, dReprD, dReprL, dTruth, scal_ii, scal_ss, scal_bb, Cell.ml.injEq, Cell.mi.injEq, reduceCtorEq, Bool.true_eq_false, not_true_eq_false, not_false_eq_true, Int.natCast_nonneg, Int.ofNat_lt, Int.ofNat_le, Int.natCast_inj, isi_ii, isi_ib, isi_ss, isi_tt, sq_t, sq_l, lst_l, lstT_l, ins_o, ins_oC, fld_cons, ofStr_eq, String.reduceEq, Bool.not_true, Bool.not_false, Bool.not_eq_true', decide_eq_false_iff_not, decide_eq_true_eq, dNever, setM_at, setM_setM, ixN_nat hi, map_set_i, List.length_map]
      refine ⟨_, hy.set hp, _, at_int hi, _, hy.set hp, _, at_int hj, _, rfl, _, rfl, ?_⟩
      simp only [dVar, dC, dOp, dUn, dI0, dU, dEq, dNe, dIsN, dIxL, dIxT, dIn, dCat, dRep, dTest, dAnd, dOr, dNot, dYes, dAndV, dOrV, dNotV, dIf, dChain, dNil, dCons, dTup, dLst, dCall, dCallD, dFld, dCon, dCVal, dMeth, dProp, dMake, dMakeD, dCallO, dCB, dLen, dListOf, dTupleOf, d2I, d1I, dInt1, dDivmod, dInts, dBools, dIsi, dBM, dAppend, dNoPart, dPart, dSl, dOwn2, dOwnI, dOwnN, dEqD, dName, dgNil, dgCons, dgTup, dSub, dSetL, dNext, dSeq, dBreak, dCont, dDrop, dRet, dRetN, dIfS, dAsg, dPar, dSetF, dI, endD, startR, Option.some.injEq, Da.v.injEq, Da.tup.injEq, Da.lst.injEq, V.int.injEq, V.bl.injEq, V.str.injEq, V.ref.injEq, exists_eq_left', exists_eq_left, exists_and_left, List.cons.injEq, and_true, true_and, and_assoc, exists_eq, List.map_cons, List.map_nil, List.length_cons, List.length_nil, List.cons_append, List.nil_append, List.append_nil, List.replicate_succ, List.replicate_zero, List.getElem?_cons_succ, List.getElem?_cons_zero, List.set_cons_succ, List.set_cons_zero, List.length_map, if_true, Bool.false_eq_true, if_false, reduceIte, Nat.reduceAdd, Nat.reduceSub, Nat.zero_add, exists_const, exists_false, List.length_replicate, fzv_b, fzv_i, fzv_s, fzv_n, fzv_t, fzv_l, fzv_o, dIsiTE, dMakeL, dCMeth, dReprD, dReprL, dTruth, scal_ii, scal_ss, scal_bb, Cell.ml.injEq, Cell.mi.injEq, reduceCtorEq, Bool.true_eq_false, not_true_eq_false, not_false_eq_true, Int.natCast_nonneg, Int.ofNat_lt, Int.ofNat_le, Int.natCast_inj, isi_ii, isi_ib, isi_ss, isi_tt, sq_t, sq_l, lst_l, lstT_l, ins_o, ins_oC, fld_cons, ofStr_eq, String.reduceEq, Bool.not_true, Bool.not_false, Bool.not_eq_true', decide_eq_false_iff_not, decide_eq_true_eq, dNever, setM_at, setM_setM, ixN_nat hj, map_set_i, List.length_map, List.length_set]
      exact fzv_newL hp h
    | _ i j =>
      obtain ⟨hi, hj, hij⟩ := ho
      simp only [dVar, dC, dOp, dUn, dI0, dU, dEq, dNe, dIsN, dIxL, dIxT, dIn, dCat, dRep, dTest, dAnd, dOr, dNot, dYes, dAndV, dOrV, dNotV, dIf, dChain, dNil, dCons, dTup, dLst, dCall, dCallD, dFld, dCon, dCVal, dMeth, dProp, dMake, dMakeD, dCallO, dCB, dLen, dListOf, dTupleOf, d2I, d1I, dInt1, dDivmod, dInts, dBools, dIsi, dBM, dAppend, dNoPart, dPart, dSl, dOwn2, dOwnI, dOwnN, dEqD, dName, dgNil, dgCons, dgTup, dSub, dSetL, dNext, dSeq, dBreak, dCont, dDrop, dRet, dRetN, dIfS, dAsg, dPar, dSetF, dI, endD, startR, Option.some.injEq, Da.v.injEq, Da.tup.injEq, Da.lst.injEq, V.int.injEq, V.bl.injEq, V.str.injEq, V.ref.injEq, exists_eq_left', exists_eq_left, exists_and_left, List.cons.injEq, and_true, true_and, and_assoc, exists_eq, List.map_cons, List.map_nil, List.length_cons, List.length_nil, List.cons_append, List.nil_append, List.append_nil, List.replicate_succ, List.replicate_zero, List.getElem?_cons_succ, List.getElem?_cons_zero, List.set_cons_succ, List.set_cons_zero, List.length_map, if_true, Bool.false_eq_true, if_false, reduceIte, Nat.reduceAdd, Nat.reduceSub, Nat.zero_add, exists_const, exists_false, List.length_replicate, fzv_b, fzv_i, fzv_s, fzv_n, fzv_t, fzv_l, fzv_o, dIsiTE, dMakeL, dCMeth, dReprD, dReprL, dTruth, scal_ii, scal_ss, scal_bb, Cell.ml.injEq, Cell.mi.injEq, reduceCtorEq, Bool.true_eq_false, not_true_eq_false, not_false_eq_true, Int.natCast_nonneg, Int.ofNat_lt, Int.ofNat_le, Int.natCast_inj, isi_ii, isi_ib, isi_ss, isi_tt, sq_t, sq_l, lst_l, lstT_l, ins_o, ins_oC, fld_cons, ofStr_eq, String.reduceEq, Bool.not_true, Bool.not_false, Bool.not_eq_true', decide_eq_false_iff_not, decide_eq_true_eq, dNever, N_behind_gate, Gt.da, Gt.vs]
      refine ⟨_, .inl hy, .inr fun p hp => ?_⟩
      refine ⟨_, hy.set hp, _, at_int hi, _, hy.set hp, _, at_int hj, _, rfl, _, rfl, ?_⟩
      simp only [dVar, dC, dOp, dUn, dI0, dU, dEq, dNe, dIsN, dIxL, dIxT, dIn, dCat, dRep, dTest, dAnd, dOr, dNot, dYes, dAndV, dOrV, dNotV, dIf, dChain, dNil, dCons, dTup, dLst, dCall, dCallD, dFld, dCon, dCVal, dMeth, dProp, dMake, dMakeD, dCallO, dCB, dLen, dListOf, dTupleOf, d2I, d1I, dInt1, dDivmod, dInts, dBools, dIsi, dBM, dAppend, dNoPart, dPart, dSl, dOwn2, dOwnI, dOwnN, dEqD, dName, dgNil, dgCons, dgTup, dSub, dSetL, dNext, dSeq, dBreak, dCont, dDrop, dRet, dRetN, dIfS, dAsg, dPar, dSetF, dI, endD, startR, Option.some.injEq, Da.v.injEq, Da.tup.injEq, Da.lst.injEq, V.int.injEq, V.bl.injEq, V.str.injEq, V.ref.injEq, exists_eq_left', exists_eq_left, exists_and_left, List.cons.injEq, and_true, true_and, and_assoc, exists_eq, List.map_cons, List.map_nil, List.length_cons, List.length_nil, List.cons_append, List.nil_append, List.append_nil, List.replicate_succ, List.replicate_zero, List.getElem?_cons_succ, List.getElem?_cons_zero, List.set_cons_succ, List.set_cons_zero, List.length_map, if_true, Bool.false_eq_true, if_false, reduceIte, Nat.reduceAdd, Nat.reduceSub, Nat.zero_add, exists_const, exists_false, List.length_replicate, fzv_b, fzv_i, fzv_s, fzv_n, fzv_t, fzv_l, fzv_o, dIsiTE, dMakeL, dCMeth, dReprD, dReprL, dTruth, scal_ii, scal_ss, scal_bb, Cell.ml.injEq, Cell.mi.injEq, reduceCtorEq, Bool.true_eq_false, not_true_eq_false, not_false_eq_true, Int.natCast_nonneg, Int.ofNat_lt, Int.ofNat_le, Int.natCast_inj, isi_ii, isi_ib, isi_ss, isi_tt, sq_t, sq_l, lst_l, lstT_l, ins_o, ins_oC, fld_cons, ofStr_eq, String.reduceEq, Bool.not_true, Bool.not_false, Bool.not_eq_true', decide_eq_false_iff_not, decide_eq_true_eq, dNever, setM_at, setM_setM, ixN_nat hi, map_set_i, List.length_map]
      exact fzv_newL hp h
/-! ### nets -/
abbrev fldN : List Str := ["_lanes", "_gates"]
def netD (C : Addr) (n : Nat) (gs : List Gt) : Da := .obj C fldN [.i n, .lst (gs.map Gt.da)]
structure NetOk (n : Nat) (gs : List Gt) : Prop where
  low : 1 ≤ n
  high : n ≤ 12
  ok : ∀ g ∈ gs, g.ok n
  few : gs.length ≤ 400
theorem getGt {gs : List Gt} {i : Nat} {d : Da} (h : (gs.map Gt.da)[i]? = some d) : ∃ g, d = g.da ∧ gs[i]? = some g := by
  rw [List.getElem?_map] at h
  cases e : gs[i]? with
  | none => rw [e] at h; cases h
  | some n => rw [e] at h; exact ⟨n, (Option.some.inj h).symm, rfl⟩
/-- a list of gates, as a list or as a tuple -/
def GtL (x : Da) (gs : List Gt) : Prop := x = .lst (gs.map Gt.da) ∨ x = .tup (gs.map Gt.da)
end
end LL

set_option synthInstance.maxSize 100000
set_option synthInstance.maxHeartbeats 4000000
namespace LL
open PySem L2 PySem.Spec PyProof.Rows
section
variable {P : Program} {w : World} {K : PySem.W.Frag} {mg : Str → Option Value} {base : Heap} {C : Addr}
theorem GtL.sq {x : Da} {gs : List Gt} {μ : Mu} (h : GtL x gs) : Sq μ x (gs.map Gt.da) := h.elim (fun e => by rw [e]; exact .l) fun e => by rw [e]; exact .t
theorem GtL.lt {x : Da} {gs : List Gt} (h : GtL x gs) : Lt x := ⟨_, h⟩
def dsp_check_gates : DSp := fun ds μ Q => ∃ (x : Da) (n : Nat) (gs : List Gt), ds = [x, .i n] ∧ GtL x gs ∧ (∀ g ∈ gs, g.ok n) ∧ gs.length ≤ 400 ∧ Q .n μ
theorem c_check_gates (T : Txt K mg C) : C8.Cal P w K mg base 5 "_check_gates" (spD K dsp_check_gates) [] := by
  obtain ⟨f, fd, D, b⟩ := T.d_check_gates
  refine ⟨f, fd, _, [], fnD (dsp := dsp_check_gates) D.fn sc_check_gates (fun ds μ Q h => ?_) (fun cdv A outer s H E hr _ => ?_), D.mgf, D.kp, b, .nil⟩
  · obtain ⟨x, n, gs, rfl, _⟩ := h
    rfl
  · obtain ⟨mc, u, cr, cv⟩ := T.cM
    refine ⟨_, (pss_cons (ps_if (pt_not (pt_val (C8.pe_c (c_is_list T) hr (by decide) rfl (pa_cons (pv 0) pa_nil))))
       (pss_one ps_never)
       pss_nil)
      (pss_cons (ps_for PassesOwn.never rfl (pi_or (pi_enum (by rfl) T.b_enumerate (pa_cons (pv 0) pa_nil)) (pi_enumT (by rfl) T.b_enumerate (pa_cons (pv 0) pa_nil))) (pg_tup (n := 2) rfl (pgs_cons (pg_name (i := 2) sc_check_gates.nd rfl (Or.inl rfl)) (pgs_cons (pg_name (i := 3) sc_check_gates.nd rfl (Or.inl rfl)) pgs_nil)))
       (pss_one (ps_if (pt_not (pt_val (C8.pe_c (c_is_gate T) hr (by decide) rfl (pa_cons (pv 3) (pa_cons (pv 1) pa_nil)))))
         (pss_one ps_never)
         pss_nil)))
      (pss_one (ps_if (pt_cmpR op_gt (pe_callB call_len_seq (by rfl) T.b_len (by decide +kernel) (pa_cons (pv 0) pa_nil)) (ClX.pe_cval (C8.pe_gc (v := .ref C) rfl ⟨_, T.mgC, rfl⟩)) (nomark _))
       (pss_one ps_never)
       pss_nil)))), ?_⟩
    dsimp only [cxOf, Cx.nox]
    refine ⟨_, inferInstance, fun ds μ Q h => ?_⟩
    obtain ⟨x, n, gs, rfl, hg, ho, hf, h⟩ := h
    simp only [dVar, dC, dOp, dUn, dI0, dU, dEq, dNe, dIsN, dIxL, dIxT, dIn, dCat, dRep, dTest, dAnd, dOr, dNot, dYes, dAndV, dOrV, dNotV, dIf, dChain, dNil, dCons, dTup, dLst, dCall, dCallD, dFld, dCon, dCVal, dMeth, dProp, dMake, dMakeD, dCallO, dCB, dLen, dListOf, dTupleOf, d2I, d1I, dInt1, dDivmod, dInts, dBools, dIsi, dBM, dAppend, dNoPart, dPart, dSl, dOwn2, dOwnI, dOwnN, dEqD, dName, dgNil, dgCons, dgTup, dSub, dSetL, dNext, dSeq, dBreak, dCont, dDrop, dRet, dRetN, dIfS, dAsg, dPar, dSetF, dI, endD, startR, Option.some.injEq, Da.v.injEq, Da.tup.injEq, Da.lst.injEq, V.int.injEq, V.bl.injEq, V.str.injEq, V.ref.injEq, exists_eq_left', exists_eq_left, exists_and_left, List.cons.injEq, and_true, true_and, and_assoc, exists_eq, List.map_cons, List.map_nil, List.length_cons, List.length_nil, List.cons_append, List.nil_append, List.append_nil, List.replicate_succ, List.replicate_zero, List.getElem?_cons_succ, List.getElem?_cons_zero, List.set_cons_succ, List.set_cons_zero, List.length_map, if_true, Bool.false_eq_true, if_false, reduceIte, Nat.reduceAdd, Nat.reduceSub, Nat.zero_add, exists_const, exists_false, List.length_replicate, fzv_b, fzv_i, fzv_s, fzv_n, fzv_t, fzv_l, fzv_o, dIsiTE, dMakeL, dCMeth, dReprD, dReprL, dTruth, scal_ii, scal_ss, scal_bb, Cell.ml.injEq, Cell.mi.injEq, reduceCtorEq, Bool.true_eq_false, not_true_eq_false, not_false_eq_true, Int.natCast_nonneg, Int.ofNat_lt, Int.ofNat_le, Int.natCast_inj, isi_ii, isi_ib, isi_ss, isi_tt, sq_t, sq_l, lst_l, lstT_l, ins_o, ins_oC, fld_cons, ofStr_eq, String.reduceEq, Bool.not_true, Bool.not_false, Bool.not_eq_true', decide_eq_false_iff_not, decide_eq_true_eq, dNever, N_check_gates, dsp_is_list]
    refine ⟨hg.lt, ?_⟩
    have key : ∀ (E : DEnds), (∀ d e, E.nx [some x, some (.i n), d, e] μ) → ∃ Iv : Nat → Rho → Mu → Prop, Iv 0 [some x, some (.i n), none, none] μ ∧ (∀ i ρ' μ', i ≤ (enD 0 (gs.map Gt.da)).length → Iv i ρ' μ' → True) ∧
        (∀ i y ρ' μ', (enD 0 (gs.map Gt.da))[i]? = some y → Iv i ρ' μ' → dgTup 2 (dgCons (dName 2) (dgCons (dName 3) dgNil)) y ρ' μ' fun ρ2 μ2 => dIfS (dNot (dTest (dCall dsp_is_gate (dCons (dVar 3) (dCons (dVar 1) dNil))))) dNever dNext { E with nx := Iv (i + 1), ct := Iv (i + 1), bk := E.nx } ρ2 μ2) ∧
        ∀ ρ' μ', Iv (enD 0 (gs.map Gt.da)).length ρ' μ' → Fz E.nx ρ' μ' := fun E hE => by
      refine ⟨fun i ρ' μ' => ∃ d e, ρ' = [some x, some (.i n), d, e] ∧ μ' = μ, ⟨_, _, rfl, rfl⟩, fun _ _ _ _ _ => trivial, fun i y ρ' μ' hy z => ?_, fun ρ' μ' z => ?_⟩
      · obtain ⟨d, e, rfl, rfl⟩ := z
        obtain ⟨d', h1, rfl⟩ := enD_get hy
        obtain ⟨g, rfl, h2⟩ := getGt h1
        simp only [dVar, dC, dOp, dUn, dI0, dU, dEq, dNe, dIsN, dIxL, dIxT, dIn, dCat, dRep, dTest, dAnd, dOr, dNot, dYes, dAndV, dOrV, dNotV, dIf, dChain, dNil, dCons, dTup, dLst, dCall, dCallD, dFld, dCon, dCVal, dMeth, dProp, dMake, dMakeD, dCallO, dCB, dLen, dListOf, dTupleOf, d2I, d1I, dInt1, dDivmod, dInts, dBools, dIsi, dBM, dAppend, dNoPart, dPart, dSl, dOwn2, dOwnI, dOwnN, dEqD, dName, dgNil, dgCons, dgTup, dSub, dSetL, dNext, dSeq, dBreak, dCont, dDrop, dRet, dRetN, dIfS, dAsg, dPar, dSetF, dI, endD, startR, Option.some.injEq, Da.v.injEq, Da.tup.injEq, Da.lst.injEq, V.int.injEq, V.bl.injEq, V.str.injEq, V.ref.injEq, exists_eq_left', exists_eq_left, exists_and_left, List.cons.injEq, and_true, true_and, and_assoc, exists_eq, List.map_cons, List.map_nil, List.length_cons, List.length_nil, List.cons_append, List.nil_append, List.append_nil, List.replicate_succ, List.replicate_zero, List.getElem?_cons_succ, List.getElem?_cons_zero, List.set_cons_succ, List.set_cons_zero, List.length_map, if_true, Bool.false_eq_true, if_false, reduceIte, Nat.reduceAdd, Nat.reduceSub, Nat.zero_add, exists_const, exists_false, List.length_replicate, fzv_b, fzv_i, fzv_s, fzv_n, fzv_t, fzv_l, fzv_o, dIsiTE, dMakeL, dCMeth, dReprD, dReprL, dTruth, scal_ii, scal_ss, scal_bb, Cell.ml.injEq, Cell.mi.injEq, reduceCtorEq, Bool.true_eq_false, not_true_eq_false, not_false_eq_true, Int.natCast_nonneg, Int.ofNat_lt, Int.ofNat_le, Int.natCast_inj, isi_ii, isi_ib, isi_ss, isi_tt, sq_t, sq_l, lst_l, lstT_l, ins_o, ins_oC, fld_cons, ofStr_eq, String.reduceEq, Bool.not_true, Bool.not_false, Bool.not_eq_true', decide_eq_false_iff_not, decide_eq_true_eq, dNever, dsp_is_gate]
        exact ⟨g, rfl, ho g (List.mem_of_getElem? h2), _, rfl⟩
      · obtain ⟨d, e, rfl, rfl⟩ := z
        exact .no (hE d e)
    have fin : ∀ d e, dIfS (dTest (dOp (dI0 fun i j => V.bl (decide (j < i))) (dCB dLen (dCons (dVar 0) dNil)) (dCVal K (dCR K C) "MOST_GATES"))) dNever dNext (endD Q) [some x, some (.i n), d, e] μ := fun d e => by
      simp only [dVar, dC, dOp, dUn, dI0, dU, dEq, dNe, dIsN, dIxL, dIxT, dIn, dCat, dRep, dTest, dAnd, dOr, dNot, dYes, dAndV, dOrV, dNotV, dIf, dChain, dNil, dCons, dTup, dLst, dCall, dCallD, dFld, dCon, dCVal, dMeth, dProp, dMake, dMakeD, dCallO, dCB, dLen, dListOf, dTupleOf, d2I, d1I, dInt1, dDivmod, dInts, dBools, dIsi, dBM, dAppend, dNoPart, dPart, dSl, dOwn2, dOwnI, dOwnN, dEqD, dName, dgNil, dgCons, dgTup, dSub, dSetL, dNext, dSeq, dBreak, dCont, dDrop, dRet, dRetN, dIfS, dAsg, dPar, dSetF, dI, endD, startR, Option.some.injEq, Da.v.injEq, Da.tup.injEq, Da.lst.injEq, V.int.injEq, V.bl.injEq, V.str.injEq, V.ref.injEq, exists_eq_left', exists_eq_left, exists_and_left, List.cons.injEq, and_true, true_and, and_assoc, exists_eq, List.map_cons, List.map_nil, List.length_cons, List.length_nil, List.cons_append, List.nil_append, List.append_nil, List.replicate_succ, List.replicate_zero, List.getElem?_cons_succ, List.getElem?_cons_zero, List.set_cons_succ, List.set_cons_zero, List.length_map, if_true, Bool.false_eq_true, if_false, reduceIte, Nat.reduceAdd, Nat.reduceSub, Nat.zero_add, exists_const, exists_false, List.length_replicate, fzv_b, fzv_i, fzv_s, fzv_n, fzv_t, fzv_l, fzv_o, dIsiTE, dMakeL, dCMeth, dReprD, dReprL, dTruth, scal_ii, scal_ss, scal_bb, Cell.ml.injEq, Cell.mi.injEq, reduceCtorEq, Bool.true_eq_false, not_true_eq_false, not_false_eq_true, Int.natCast_nonneg, Int.ofNat_lt, Int.ofNat_le, Int.natCast_inj, isi_ii, isi_ib, isi_ss, isi_tt, sq_t, sq_l, lst_l, lstT_l, ins_o, ins_oC, fld_cons, ofStr_eq, String.reduceEq, Bool.not_true, Bool.not_false, Bool.not_eq_true', decide_eq_false_iff_not, decide_eq_true_eq, dNever]
      refine ⟨_, hg.sq, .inl ⟨C, rfl, mc, cr, _, u, cv, _, rfl, ?_⟩⟩
      rw [if_neg (by rw [List.length_map]; omega)]
      exact h
    rcases hg with rfl | rfl
    · refine .inl ⟨_, rfl, _, _, _, rfl, .l, trivial, ?_⟩
      exact key _ fin
    · refine .inr ⟨_, rfl, _, rfl, ?_⟩
      exact key _ fin
/-! ### Net: made, asked -/
def dsp_Net_init (C : Addr) : DSp := fun ds μ Q => ∃ (a : Addr) (x : Da) (n : Nat) (gs : List Gt), ds = [.r a, .i n, x] ∧ μ a = some (.mi C [] []) ∧ GtL x gs ∧ NetOk n gs ∧ Q .n (setM μ a (.mi C fldN [.i n, .lst (gs.map Gt.da)]))
theorem fn_Net (T : Txt K mg C) {f : Addr} {fd : FuncData} (F : C8.Fun K "__init__" "Net.__init__" s_Net_init f fd) : FnOk P w K mg base CX0 6 f fd ["self", "lanes", "gates"] (spD K (dsp_Net_init C)) := by
  refine fnD (dsp := dsp_Net_init C) F sc_Net_init (fun ds μ Q h => ?_) (fun cdv A outer s H E hr _ => ?_)
  · obtain ⟨a, x, n, gs, rfl, _⟩ := h
    rfl
  · refine ⟨_, (pss_cons (ps_expr (C8.pe_c (c_check_lanes T) hr (by decide) rfl (pa_cons (pv 1) (pa_cons pe_int pa_nil))))
      (pss_cons (ps_expr (C8.pe_c (c_check_gates T) hr (by decide) rfl (pa_cons (pv 2) (pa_cons (pv 1) pa_nil))))
      (pss_cons (ps_fld (pv 0) (pv 1) rfl)
      (pss_one (ps_fld (pv 0) (pe_lc (own := [("gate", 3)]) (g := (gName 3)) (tt := tYes) rfl sc_Net_init.nd (pi_or (pi_list (pv 2)) (pi_tup (pv 2))) (blkOk_by (N := N_Net_init) (sc := C8.fnScope s_Net_init) (by decide +kernel)) (fun _ _ _ _ _ => (pg_name (i := 3) sc_Net_init.nd rfl (Or.inl rfl))) (fun _ _ _ _ _ => pts_nil) (fun _ _ _ _ _ => (pe_callTy (T := "tuple") (r := rTupOf K) call_tuple_of (by rfl) T.b_tuple (by decide +kernel) (pa_cons (pv 3) pa_nil)))) rfl))))), ?_⟩
    dsimp only [cxOf, Cx.nox]
    refine ⟨_, inferInstance, fun ds μ Q h => ?_⟩
    obtain ⟨a, x, n, gs, rfl, ha, hg, ok, h⟩ := h
    simp only [dVar, dC, dOp, dUn, dI0, dU, dEq, dNe, dIsN, dIxL, dIxT, dIn, dCat, dRep, dTest, dAnd, dOr, dNot, dYes, dAndV, dOrV, dNotV, dIf, dChain, dNil, dCons, dTup, dLst, dCall, dCallD, dFld, dCon, dCVal, dMeth, dProp, dMake, dMakeD, dCallO, dCB, dLen, dListOf, dTupleOf, d2I, d1I, dInt1, dDivmod, dInts, dBools, dIsi, dBM, dAppend, dNoPart, dPart, dSl, dOwn2, dOwnI, dOwnN, dEqD, dName, dgNil, dgCons, dgTup, dSub, dSetL, dNext, dSeq, dBreak, dCont, dDrop, dRet, dRetN, dIfS, dAsg, dPar, dSetF, dI, endD, startR, Option.some.injEq, Da.v.injEq, Da.tup.injEq, Da.lst.injEq, V.int.injEq, V.bl.injEq, V.str.injEq, V.ref.injEq, exists_eq_left', exists_eq_left, exists_and_left, List.cons.injEq, and_true, true_and, and_assoc, exists_eq, List.map_cons, List.map_nil, List.length_cons, List.length_nil, List.cons_append, List.nil_append, List.append_nil, List.replicate_succ, List.replicate_zero, List.getElem?_cons_succ, List.getElem?_cons_zero, List.set_cons_succ, List.set_cons_zero, List.length_map, if_true, Bool.false_eq_true, if_false, reduceIte, Nat.reduceAdd, Nat.reduceSub, Nat.zero_add, exists_const, exists_false, List.length_replicate, fzv_b, fzv_i, fzv_s, fzv_n, fzv_t, fzv_l, fzv_o, dIsiTE, dMakeL, dCMeth, dReprD, dReprL, dTruth, scal_ii, scal_ss, scal_bb, Cell.ml.injEq, Cell.mi.injEq, reduceCtorEq, Bool.true_eq_false, not_true_eq_false, not_false_eq_true, Int.natCast_nonneg, Int.ofNat_lt, Int.ofNat_le, Int.natCast_inj, isi_ii, isi_ib, isi_ss, isi_tt, sq_t, sq_l, lst_l, lstT_l, ins_o, ins_oC, fld_cons, ofStr_eq, String.reduceEq, Bool.not_true, Bool.not_false, Bool.not_eq_true', decide_eq_false_iff_not, decide_eq_true_eq, dNever, N_Net_init, dsp_check_lanes]
    have h1 := ok.low
    have h12 := ok.high
    refine ⟨by omega, by omega, x, n, gs, rfl, hg, ok.ok, ok.few, C, [], [], ha, T.cl, T.nL, by show 0 < 1000; decide, (by simp), by decide, ?_⟩
    have key : ∀ (G : Mu → Prop) (ρ : Rho) (μ1 : Mu), (∀ μ', G μ') → ρ.length = 4 → μ1 a = some (.mi C ["_lanes"] [.i n]) → setM μ1 a (.mi C fldN [.i n, .lst (gs.map Gt.da)]) = setM μ a (.mi C fldN [.i n, .lst (gs.map Gt.da)]) → LcB (gs.map Gt.da) G (lcStep (dName 3) dYes (dCB dTupleOf (dCons (dVar 3) dNil)) [3] ρ) (fun y μ1 => ∃ C x x_4, μ1 a = some (Cell.mi C x x_4) ∧ Cls K C ∧ NoAttr K C "_gates" ∧ x.length < 1000 ∧ ¬(("_gates" : Str) ∈ x) ∧ Q Da.n (setM μ1 a (Cell.mi C (x ++ [("_gates" : Str)]) (x_4 ++ [y])))) μ1 := fun G ρ μ1 hG hl hm he => by
      refine lcM id (by rw [List.length_map]; have := ok.few; omega) (fun _ _ => hG _) (fun i y μ' R hy _ r => ?_) (.inl ?_)
      · obtain ⟨g, rfl, _⟩ := getGt hy
        match ρ, hl with
        | [r0, r1, r2, r3], _ =>
          simp only [dVar, dC, dOp, dUn, dI0, dU, dEq, dNe, dIsN, dIxL, dIxT, dIn, dCat, dRep, dTest, dAnd, dOr, dNot, dYes, dAndV, dOrV, dNotV, dIf, dChain, dNil, dCons, dTup, dLst, dCall, dCallD, dFld, dCon, dCVal, dMeth, dProp, dMake, dMakeD, dCallO, dCB, dLen, dListOf, dTupleOf, d2I, d1I, dInt1, dDivmod, dInts, dBools, dIsi, dBM, dAppend, dNoPart, dPart, dSl, dOwn2, dOwnI, dOwnN, dEqD, dName, dgNil, dgCons, dgTup, dSub, dSetL, dNext, dSeq, dBreak, dCont, dDrop, dRet, dRetN, dIfS, dAsg, dPar, dSetF, dI, endD, startR, Option.some.injEq, Da.v.injEq, Da.tup.injEq, Da.lst.injEq, V.int.injEq, V.bl.injEq, V.str.injEq, V.ref.injEq, exists_eq_left', exists_eq_left, exists_and_left, List.cons.injEq, and_true, true_and, and_assoc, exists_eq, List.map_cons, List.map_nil, List.length_cons, List.length_nil, List.cons_append, List.nil_append, List.append_nil, List.replicate_succ, List.replicate_zero, List.getElem?_cons_succ, List.getElem?_cons_zero, List.set_cons_succ, List.set_cons_zero, List.length_map, if_true, Bool.false_eq_true, if_false, reduceIte, Nat.reduceAdd, Nat.reduceSub, Nat.zero_add, exists_const, exists_false, List.length_replicate, fzv_b, fzv_i, fzv_s, fzv_n, fzv_t, fzv_l, fzv_o, dIsiTE, dMakeL, dCMeth, dReprD, dReprL, dTruth, scal_ii, scal_ss, scal_bb, Cell.ml.injEq, Cell.mi.injEq, reduceCtorEq, Bool.true_eq_false, not_true_eq_false, not_false_eq_true, Int.natCast_nonneg, Int.ofNat_lt, Int.ofNat_le, Int.natCast_inj, isi_ii, isi_ib, isi_ss, isi_tt, sq_t, sq_l, lst_l, lstT_l, ins_o, ins_oC, fld_cons, ofStr_eq, String.reduceEq, Bool.not_true, Bool.not_false, Bool.not_eq_true', decide_eq_false_iff_not, decide_eq_true_eq, dNever, lcStep, wipeR, Gt.da]
          exact r
      · refine ⟨C, _, _, hm, T.cl, T.nG, by show 1 < 1000; decide, by simp [ofStr_eq], ?_⟩
        rw [List.map_id]
        show Q Da.n (setM μ1 a (.mi C fldN [.i n, .lst (gs.map Gt.da)]))
        rw [he]
        exact h
    rcases hg with rfl | rfl
    · exact .inl ⟨_, rfl, _, _, .l, trivial, key _ _ _ (fun _ => trivial) rfl setM_at setM_setM⟩
    · exact .inr ⟨_, rfl, _, rfl, key _ _ _ (fun _ => trivial) rfl setM_at setM_setM⟩
theorem c_Net (T : Txt K mg C) : C8.Mak P w K mg base 6 "Net" C (spD K (dsp_Net_init C)) [] := by
  obtain ⟨f, fd, e, F, M, _, b, _⟩ := T.i_init
  exact ⟨f, fd, _, [], M, fn_Net T F, T.mgC, b, .nil⟩
/-- made of lanes alone: no gates -/
theorem c_Net0 (T : Txt K mg C) : ∃ e, (∀ I : Hp, At K I (.ref e) (.tup [])) ∧ C8.Mak P w K mg base 6 "Net" C (spD K (dsp_Net_init C)) [.ref e] := by
  obtain ⟨f, fd, e, F, M, he, _, b⟩ := T.i_init
  exact ⟨e, fun I => .tup (he I) .nil, f, fd, _, [.ref e], M, fn_Net T F, T.mgC, b, .cons rfl .nil⟩
/-! ### lanes, gates(), the call, == -/
def dsp_Net_lanes (C : Addr) : DSp := fun ds μ Q => ∃ (n : Nat) (gs : List Gt), ds = [netD C n gs] ∧ Q (.i n) μ
theorem c_lanes (T : Txt K mg C) : ∃ p g fd, PropOf K C "lanes" p g ∧ FnOk P w K mg base CX0 1 g fd ["self"] (spD K (dsp_Net_lanes C)) ∧ Binds K fd ["self"] [] := by
  obtain ⟨p, g, fd, F, Pr, b⟩ := T.i_lanes
  refine ⟨p, g, fd, Pr, fnD (dsp := dsp_Net_lanes C) F sc_Net_lanes (fun ds μ Q h => ?_) (fun cdv A outer s H E hr _ => ?_), b⟩
  · obtain ⟨n, gs, rfl, _⟩ := h
    rfl
  · refine ⟨_, (pss_one (ps_ret (pe_fld (pv 0) rfl))), ?_⟩
    dsimp only [cxOf, Cx.nox]
    refine ⟨_, inferInstance, fun ds μ Q h => ?_⟩
    obtain ⟨n, gs, rfl, h⟩ := h
    exact ⟨_, rfl, C, _, _, _, .o, T.cl, T.nL, rfl, .inl h⟩
def dsp_Net_call (C : Addr) : DSp := fun ds μ Q => ∃ (n : Nat) (gs : List Gt) (x : Da) (ns : List Int), ds = [netD C n gs, x] ∧ NetOk n gs ∧ Ct x ns ∧ ns.length = n ∧ NewL ((runs gs ns).map Da.i) μ Q
theorem fn_call (T : Txt K mg C) {f : Addr} {fd : FuncData} (F : C8.Fun K "__call__" "Net.__call__" s_Net_call f fd) : FnOk P w K mg base CX0 5 f fd ["self", "content"] (spD K (dsp_Net_call C)) := by
  refine fnD (dsp := dsp_Net_call C) F sc_Net_call (fun ds μ Q h => ?_) (fun cdv A outer s H E hr _ => ?_)
  · obtain ⟨n, gs, x, ns, rfl, _⟩ := h
    rfl
  · refine ⟨_, (pss_cons (ps_expr (C8.pe_c (c_check_content T) hr (by decide) rfl (pa_cons (pv 1) (pa_cons (pe_fld (pv 0) rfl) pa_nil))))
      (pss_cons (ps_set (i := 2) sc_Net_call.nd rfl (Or.inl rfl) (pe_callTy call_list_of (by rfl) T.b_list (by decide +kernel) (pa_cons (pv 1) pa_nil)))
      (pss_cons (ps_for PassesOwn.never rfl (pi_list (pe_fld (pv 0) rfl)) (pg_name (i := 3) sc_Net_call.nd rfl (Or.inl rfl))
       (pss_one (ps_set (i := 2) sc_Net_call.nd rfl (Or.inl rfl) (C8.pe_c (c_behind_gate T) hr (by decide) rfl (pa_cons (pv 3) (pa_cons (pv 2) pa_nil))))))
      (pss_one (ps_ret (pv 2)))))), ?_⟩
    dsimp only [cxOf, Cx.nox]
    refine ⟨_, inferInstance, fun ds μ Q h => ?_⟩
    obtain ⟨n, gs, x, ns, rfl, ok, c, hn, h⟩ := h
    refine ⟨_, rfl, _, rfl, C, _, _, _, .o, T.cl, T.nL, rfl, x, ns, n, rfl, c, by omega, ?_⟩
    rcases h with h | h
    · refine ⟨_, rfl, x, _, rfl, c.sq, .inl ?_⟩
      refine ⟨_, rfl, C, _, _, _, .o, T.cl, T.nG, rfl, _, _, .l, trivial, fun i ρ' μ' => μ' = μ ∧ ∃ e, ρ' = [some (netD C n gs), some x, some (rowD (runs (gs.take i) ns)), e], ⟨rfl, none, rfl⟩, fun _ _ _ _ _ => trivial, fun i y ρ' μ' hy z => ?_, fun ρ' μ' z => ?_⟩
      · obtain ⟨rfl, e, rfl⟩ := z
        obtain ⟨g, rfl, hg⟩ := getGt hy
        refine ⟨_, rfl, _, rfl, g, _, _, rfl, .l, by rw [runs_length, hn]; exact ok.ok g (List.mem_of_getElem? hg), .inl ⟨rfl, some g.da, ?_⟩⟩
        rw [runs_take_succ hg]
        rfl
      · obtain ⟨rfl, e, rfl⟩ := z
        rw [List.length_map, List.take_length]
        exact .no ⟨_, rfl, .inl h⟩
    · let Iv : Nat → Rho → Mu → Prop := fun i ρ' μ' => (i < gs.length ∧ μ' = μ ∧ ∃ e, ρ' = [some (netD C n gs), some x, some (rowD (runs (gs.take i) ns)), e]) ∨ (i = gs.length ∧ ∃ p e, μ p = none ∧ μ' = setM μ p (.ml ((runs gs ns).map Da.i)) ∧ ρ' = [some (netD C n gs), some x, some (.r p), e])
      have rest : ∀ ρ' μ', Iv 0 ρ' μ' → dSeq (dFor (dIList (dFld K (dVar 0) "_gates")) (dName 3) (dAsg (dCall dsp_behind_gate (dCons (dVar 3) (dCons (dVar 2) dNil))) (dName 2))) (dRet (dVar 2)) (endD Q) ρ' μ' := fun ρ' μ' h0 => by
        have e0 : ρ'[0]? = some (some (netD C n gs)) := by rcases h0 with ⟨_, _, e, rfl⟩ | ⟨_, p, e, _, _, rfl⟩ <;> rfl
        refine ⟨_, e0, C, _, _, _, .o, T.cl, T.nG, rfl, _, _, .l, trivial, Iv, h0, fun _ _ _ _ _ => trivial, fun i y ρ' μ' hy z => ?_, fun ρ' μ' z => ?_⟩
        · obtain ⟨g, rfl, hg⟩ := getGt hy
          have hi := (List.getElem?_eq_some_iff.mp hg).1
          rcases z with ⟨_, rfl, e, rfl⟩ | ⟨z, _⟩
          · refine ⟨_, rfl, _, rfl, g, _, _, rfl, .l, by rw [runs_length, hn]; exact ok.ok g (List.mem_of_getElem? hg), ?_⟩
            rw [← runs_take_succ hg]
            by_cases hl : i + 1 = gs.length
            · refine .inr fun p hp => .inr ⟨hl, p, some g.da, hp, ?_, rfl⟩
              rw [hl, List.take_length]
            · exact .inl (.inl ⟨by omega, rfl, some g.da, rfl⟩)
          · omega
        · rw [List.length_map] at z
          rcases z with ⟨z, _⟩ | ⟨_, p, e, hp, rfl, rfl⟩
          · omega
          · exact .no ⟨_, rfl, .inl (h p hp)⟩
      refine ⟨_, rfl, x, _, rfl, c.sq, ?_⟩
      by_cases hl : gs.length = 0
      · refine .inr fun p hp => rest _ _ (.inr ⟨hl.symm, p, none, hp, ?_, rfl⟩)
        rw [List.length_eq_zero_iff.mp hl]
        rfl
      · exact .inl (rest _ _ (.inl ⟨by omega, rfl, none, rfl⟩))
theorem c_call (T : Txt K mg C) : ∃ g, StX.CallO K C g ∧ FnR P w K mg base CX0 5 g (spD K (dsp_Net_call C)) := by
  obtain ⟨f, fd, F, M, b, _⟩ := T.i_call
  exact ⟨f, M, ((fn_call (P := P) (w := w) (base := base) T F).raw b .nil).imp fun vs H Q E h => by rw [List.append_nil]; exact h⟩
end
end LL

set_option synthInstance.maxSize 100000
set_option synthInstance.maxHeartbeats 4000000
namespace LL
open PySem L2 PySem.Spec PyProof.Rows
theorem eqd_g (g : Gt) : Eqd 1 g.da := by
  refine eqd_t (n := 0) fun d hd => ?_
  cases g <;>
  · simp only [Gt.vs, List.map_cons, List.map_nil, List.mem_cons, List.not_mem_nil, or_false] at hd
    rcases hd with rfl | rfl | rfl
    · exact eqd_s (by decide +kernel)
    · exact eqd_i
    · exact eqd_i
theorem eqd_gs (gs : List Gt) : Eqd 2 (.lst (gs.map Gt.da)) := eqd_l fun d hd => by
  obtain ⟨g, _, rfl⟩ := List.mem_map.mp hd
  exact eqd_g g
theorem eqd_row (ns : List Int) : Eqd 1 (rowD ns) := eqd_l fun d hd => by
  obtain ⟨g, _, rfl⟩ := List.mem_map.mp hd
  exact eqd_i
abbrev rowsD (rs : List (List Int)) : Da := .lst (rs.map rowD)
theorem eqd_rows (rs : List (List Int)) : Eqd 2 (rowsD rs) := eqd_l fun d hd => by
  obtain ⟨g, _, rfl⟩ := List.mem_map.mp hd
  exact eqd_row g
theorem cutD_take {xs : List Da} {i : Nat} (h : i ≤ xs.length) : cutD xs none (some (i : Int)) = xs.take i := by
  unfold cutD
  rw [HT.sIx_none, HT.sIx_nat, List.drop_zero, Nat.min_eq_left h, Nat.sub_zero]
theorem cutD_drop {xs : List Da} {i : Nat} (h : i ≤ xs.length) : cutD xs (some (i : Int)) none = xs.drop i := by
  unfold cutD
  rw [HT.sIx_none, HT.sIx_nat, Nat.min_eq_left h]
  exact List.take_of_length_le (by rw [List.length_drop]; omega)
def repG (k : Nat) (gs : List Gt) : List Gt := (List.replicate k gs).flatten
theorem mem_rep {k : Nat} {gs : List Gt} {g : Gt} (h : g ∈ repG k gs) : g ∈ gs := by
  obtain ⟨l, h1, h2⟩ := List.mem_flatten.mp h
  rw [(List.mem_replicate.mp h1).2] at h2
  exact h2
theorem rep_succ (k : Nat) (gs : List Gt) : repG (k + 1) gs = gs ++ repG k gs := by
  unfold repG
  rw [List.replicate_succ, List.flatten_cons]
theorem len_rep : ∀ (k : Nat) (gs : List Gt), (repG k gs).length = k * gs.length
  | 0, gs => by
    rw [Nat.zero_mul]
    rfl
  | k + 1, gs => by
    rw [rep_succ, List.length_append, len_rep k gs, Nat.succ_mul]
    omega
theorem rep_map (k : Nat) (gs : List Gt) : (List.replicate k (gs.map Gt.da)).flatten = (repG k gs).map Gt.da := by
  unfold repG
  rw [List.map_flatten, List.map_replicate]
theorem NetOk.take {n i : Nat} {gs : List Gt} (h : NetOk n gs) : NetOk n (gs.take i) := ⟨h.low, h.high, fun g hg => h.ok g (List.mem_of_mem_take hg), by have := h.few; rw [List.length_take]; omega⟩
theorem NetOk.drop {n i : Nat} {gs : List Gt} (h : NetOk n gs) : NetOk n (gs.drop i) := ⟨h.low, h.high, fun g hg => h.ok g (List.mem_of_mem_drop hg), by have := h.few; rw [List.length_drop]; omega⟩
section
variable {P : Program} {w : World} {K : PySem.W.Frag} {mg : Str → Option Value} {base : Heap} {C : Addr}
/-- making a net: what the maker's reading asks -/
theorem make_net {x : Da} {n : Nat} {gs : List Gt} {μ : Mu} {Q : DP} (hg : GtL x gs) (ok : NetOk n gs) (h : Q (netD C n gs) μ) : ∀ a, μ a = none → dsp_Net_init C (.r a :: [.i n, x]) (setM μ a (.mi C [] [])) fun r μ2 => r = .n ∧ ∃ ns gs', μ2 a = some (.mi C ns gs') ∧ (Q (.obj C ns gs') (remM μ2 a) ∨ Q (.r a) μ2) := fun a ha =>
  ⟨a, x, n, gs, rfl, setM_at, hg, ok, rfl, _, _, setM_at, .inl (by rw [setM_setM, remM_setM ha]; exact h)⟩
def okN : List Str → List Da → Prop := fun ns ds => ∃ (n : Nat) (gs : List Gt), ns = fldN ∧ ds = [.i n, .lst (gs.map Gt.da)]
theorem c_eq (T : Txt K mg C) : ∃ f fd, FnOk P w K mg base CX0 1 f fd ["self", "other"] (spEq (REq K C okN)) ∧ PySem.W.findIn K (.ref C) "__eq__" = some (some (.ref f)) ∧ PySem.W.isFn K (.ref f) = true ∧ Binds K fd ["self", "other"] [] := by
  obtain ⟨f, fd, F, h1, h2, b⟩ := T.i_eq
  refine ⟨f, fd, (fnD (dsp := dspEq C okN) F sc_Net_eq (fun ds μ Q h => ?_) (fun cdv A outer s H E hr _ => ?_)).imp fun vs H Q E h => spEq_of h, h1, h2, b⟩
  · obtain ⟨ns, es, rfl, _⟩ := h
    rfl
  · refine ⟨_, (pss_one (ps_ret (pe_and (pe_callB call_isi (by rfl) T.b_isinstance (by decide +kernel) (pa_cons (pv 1) (pa_cons (C8.pe_gc (v := .ref C) rfl ⟨_, T.mgC, rfl⟩) pa_nil))) (pe_and (pe_cmpR op_eq (pe_fld (pv 0) rfl) (pe_fld (pv 1) rfl) (nomark _)) (pe_one (pe_cmpR (op_eqD hr.units) (pe_fld (pv 0) rfl) (pe_fld (pv 1) rfl) (nomark _))))))), ?_⟩
    dsimp only [cxOf, Cx.nox]
    refine ⟨_, inferInstance, fun ds μ Q h => ?_⟩
    obtain ⟨ns, es, rfl, ⟨n, gs, rfl, rfl⟩, h⟩ := h
    refine ⟨_, rfl, .inl ⟨_, _, _, _, true, rfl, .own C, .ins .o T.cl T.q_ha T.q_hn T.q_ht T.q_hm, if_pos (by simp), true, rfl, ?_⟩⟩
    rw [if_pos rfl]
    refine ⟨_, rfl, C, _, _, _, .o, T.cl, T.nL, rfl, _, rfl, C, _, _, _, .o, T.cl, T.nL, rfl, _, _, rfl, rfl, rfl, true, by rw [decide_eq_true rfl], ?_⟩
    rw [if_pos rfl]
    exact ⟨_, rfl, C, _, _, _, .o, T.cl, T.nG, rfl, _, rfl, C, _, _, _, .o, T.cl, T.nG, rfl, eqD_same (eqd_gs gs) (by decide) (.inl h)⟩
def dsp_check_position : DSp := fun ds μ Q => ∃ i n : Int, ds = [.i i, .i n] ∧ 0 ≤ i ∧ i < n ∧ Q .n μ
theorem c_check_position (T : Txt K mg C) : C8.Cal P w K mg base 3 "check_position" (spD K dsp_check_position) [] := by
  obtain ⟨f, fd, D, b⟩ := T.d_check_position
  refine ⟨f, fd, _, [], fnD (dsp := dsp_check_position) D.fn sc_check_position (fun ds μ Q h => ?_) (fun cdv A outer s H E hr _ => ?_), D.mgf, D.kp, b, .nil⟩
  · obtain ⟨i, n, rfl, _⟩ := h
    rfl
  · refine ⟨_, (pss_one (ps_if (PW.pt (pw_or (pt_not (pt_val (C8.pe_c (c_is_count T) hr (by decide) rfl (pa_cons (pv 0) pa_nil)))) (pw_or1 (pt_cmpR op_ge (pv 0) (pv 1) (nomark _)))))
       (pss_one ps_never)
       pss_nil)), ?_⟩
    dsimp only [cxOf, Cx.nox]
    refine ⟨_, inferInstance, fun ds μ Q h => ?_⟩
    obtain ⟨i, n, rfl, h0, h1, h⟩ := h
    simp only [dVar, dC, dOp, dUn, dI0, dU, dEq, dNe, dIsN, dIxL, dIxT, dIn, dCat, dRep, dTest, dAnd, dOr, dNot, dYes, dAndV, dOrV, dNotV, dIf, dChain, dNil, dCons, dTup, dLst, dCall, dCallD, dFld, dCon, dCVal, dMeth, dProp, dMake, dMakeD, dCallO, dCB, dLen, dListOf, dTupleOf, d2I, d1I, dInt1, dDivmod, dInts, dBools, dIsi, dBM, dAppend, dNoPart, dPart, dSl, dOwn2, dOwnI, dOwnN, dEqD, dName, dgNil, dgCons, dgTup, dSub, dSetL, dNext, dSeq, dBreak, dCont, dDrop, dRet, dRetN, dIfS, dAsg, dPar, dSetF, dI, endD, startR, Option.some.injEq, Da.v.injEq, Da.tup.injEq, Da.lst.injEq, V.int.injEq, V.bl.injEq, V.str.injEq, V.ref.injEq, exists_eq_left', exists_eq_left, exists_and_left, List.cons.injEq, and_true, true_and, and_assoc, exists_eq, List.map_cons, List.map_nil, List.length_cons, List.length_nil, List.cons_append, List.nil_append, List.append_nil, List.replicate_succ, List.replicate_zero, List.getElem?_cons_succ, List.getElem?_cons_zero, List.set_cons_succ, List.set_cons_zero, List.length_map, if_true, Bool.false_eq_true, if_false, reduceIte, Nat.reduceAdd, Nat.reduceSub, Nat.zero_add, exists_const, exists_false, List.length_replicate, fzv_b, fzv_i, fzv_s, fzv_n, fzv_t, fzv_l, fzv_o, dIsiTE, dMakeL, dCMeth, dReprD, dReprL, dTruth, scal_ii, scal_ss, scal_bb, Cell.ml.injEq, Cell.mi.injEq, reduceCtorEq, Bool.true_eq_false, not_true_eq_false, not_false_eq_true, Int.natCast_nonneg, Int.ofNat_lt, Int.ofNat_le, Int.natCast_inj, isi_ii, isi_ib, isi_ss, isi_tt, sq_t, sq_l, lst_l, lstT_l, ins_o, ins_oC, fld_cons, ofStr_eq, String.reduceEq, Bool.not_true, Bool.not_false, Bool.not_eq_true', decide_eq_false_iff_not, decide_eq_true_eq, dNever, N_check_position, dsp_is_count]
    rw [if_neg (not_not_intro h0), if_neg (by omega)]
    exact h
def dsp_Net_cut (C : Addr) : DSp := fun ds μ Q => ∃ (n i : Nat) (gs : List Gt), ds = [netD C n gs, .i i] ∧ NetOk n gs ∧ i ≤ gs.length ∧ Q (.tup [netD C n (gs.take i), netD C n (gs.drop i)]) μ
theorem m_cut (T : Txt K mg C) : C8.Met P w K mg base 8 C "cut" (spD K (dsp_Net_cut C)) [] := by
  obtain ⟨f, fd, F, M, b⟩ := T.i_cut
  refine ⟨f, fd, _, [], T.cl, M, fnD (dsp := dsp_Net_cut C) F sc_Net_cut (fun ds μ Q h => ?_) (fun cdv A outer s H E hr _ => ?_), b, .nil⟩
  · obtain ⟨n, i, gs, rfl, _⟩ := h
    rfl
  · refine ⟨_, (pss_cons (ps_expr (C8.pe_c (c_check_position T) hr (by decide) rfl (pa_cons (pv 1) (pa_cons (pe_op op_add (pe_callB call_len_seq (by rfl) T.b_len (by decide +kernel) (pa_cons (pe_fld (pv 0) rfl) pa_nil)) pe_int) pa_nil))))
      (pss_one (ps_ret (pe_tup (pa_cons (C8.pe_mk (c_Net T) hr (by decide) rfl (pa_cons (pe_fld (pv 0) rfl) (pa_cons (pe_slice sl_list (pe_fld (pv 0) rfl) po_none (po_some (pv 1))) pa_nil))) (pa_cons (C8.pe_mk (c_Net T) hr (by decide) rfl (pa_cons (pe_fld (pv 0) rfl) (pa_cons (pe_slice sl_list (pe_fld (pv 0) rfl) (po_some (pv 1)) po_none) pa_nil))) pa_nil)))))), ?_⟩
    dsimp only [cxOf, Cx.nox]
    refine ⟨_, inferInstance, fun ds μ Q h => ?_⟩
    obtain ⟨n, i, gs, rfl, ok, hi, h⟩ := h
    have hl : (gs.map Gt.da).length = gs.length := List.length_map ..
    refine ⟨_, rfl, _, rfl, C, _, _, _, .o, T.cl, T.nG, rfl, _, _, rfl, .l, _, _, rfl, rfl, _, _, rfl, by omega, by omega, ?_⟩
    refine ⟨_, rfl, C, _, _, _, .o, T.cl, T.nL, rfl, _, rfl, C, _, _, _, .o, T.cl, T.nG, rfl, _, rfl, _, rfl, _, .l, .inl ?_⟩
    rw [cutD_take (by omega), ← List.map_take]
    intro a ha
    refine ⟨a, _, n, _, rfl, setM_at, .inl rfl, ok.take, rfl, _, _, setM_at, .inl ?_⟩
    rw [setM_setM, remM_setM ha]
    clear ha a
    refine ⟨_, rfl, C, _, _, _, .o, T.cl, T.nL, rfl, _, rfl, C, _, _, _, .o, T.cl, T.nG, rfl, _, rfl, _, rfl, _, .l, .inl ?_⟩
    rw [cutD_drop (by omega), ← List.map_drop]
    intro a ha
    refine ⟨a, _, n, _, rfl, setM_at, .inl rfl, ok.drop, rfl, _, _, setM_at, .inl ?_⟩
    rw [setM_setM, remM_setM ha]
    clear ha a
    exact ⟨by show 2 ≤ sizeLine; decide, .inl h⟩
theorem NetOk.app {n : Nat} {gs hs : List Gt} (h : NetOk n gs) (h' : NetOk n hs) (l : gs.length + hs.length ≤ 400) : NetOk n (gs ++ hs) := ⟨h.low, h.high, fun g hg => (List.mem_append.mp hg).elim (h.ok g) (h'.ok g), by rw [List.length_append]; exact l⟩
theorem NetOk.rep {n k : Nat} {gs : List Gt} (h : NetOk n gs) (l : k * gs.length ≤ 400) : NetOk n (repG k gs) := ⟨h.low, h.high, fun g hg => h.ok g (mem_rep hg), by rw [len_rep]; exact l⟩
def dsp_Net_add (C : Addr) : DSp := fun ds μ Q => ∃ (n : Nat) (gs hs : List Gt), ds = [netD C n gs, netD C n hs] ∧ NetOk n gs ∧ NetOk n hs ∧ gs.length + hs.length ≤ 400 ∧ Q (netD C n (gs ++ hs)) μ
theorem c_add (T : Txt K mg C) : ∃ f fd, FnOk P w K mg base C8.CX0 8 f fd ["self", "other"] (spD K (dsp_Net_add C)) ∧ PySem.W.findIn K (.ref C) (PySem.dunder Operator.Add.info.2) = some (some (.ref f)) ∧ PySem.W.isFn K (.ref f) = true ∧ Binds K fd ["self", "other"] [] := by
  obtain ⟨f, fd, F, h1, h2, b⟩ := T.i_add
  refine ⟨f, fd, fnD (dsp := dsp_Net_add C) F sc_Net_add (fun ds μ Q h => ?_) (fun cdv A outer s H E hr _ => ?_), h1, h2, b⟩
  · obtain ⟨n, gs, hs, rfl, _⟩ := h
    rfl
  · refine ⟨_, (pss_cons (ps_if (PW.pt (pw_or (pt_not (pt_val (pe_callB call_isi (by rfl) T.b_isinstance (by decide +kernel) (pa_cons (pv 1) (pa_cons (C8.pe_gc (v := .ref C) rfl ⟨_, T.mgC, rfl⟩) pa_nil))))) (pw_or1 (pt_cmpR op_ne (pe_fld (pv 1) rfl) (pe_fld (pv 0) rfl) (nomark _)))))
       (pss_one ps_never)
       pss_nil)
      (pss_one (ps_ret (C8.pe_mk (c_Net T) hr (by decide) rfl (pa_cons (pe_fld (pv 0) rfl) (pa_cons (pe_op op_cat (pe_fld (pv 0) rfl) (pe_fld (pv 1) rfl)) pa_nil)))))), ?_⟩
    dsimp only [cxOf, Cx.nox]
    refine ⟨_, inferInstance, fun ds μ Q h => ?_⟩
    obtain ⟨n, gs, hs, rfl, ok, ok', hl, h⟩ := h
    refine ⟨_, rfl, .inl ⟨_, _, _, _, true, rfl, .own C, .ins .o T.cl T.q_ha T.q_hn T.q_ht T.q_hm, if_pos (by simp), true, rfl, ?_⟩⟩
    show if (!true) = true then _ else _
    rw [if_neg (by decide)]
    refine ⟨_, rfl, C, _, _, _, .o, T.cl, T.nL, rfl, _, rfl, C, _, _, _, .o, T.cl, T.nL, rfl, _, _, rfl, rfl, rfl, _, rfl, ?_⟩
    rw [decide_eq_true rfl]
    show if (!true) = true then _ else _
    rw [if_neg (by decide)]
    refine ⟨_, rfl, C, _, _, _, .o, T.cl, T.nL, rfl, _, rfl, C, _, _, _, .o, T.cl, T.nG, rfl, _, rfl, C, _, _, _, .o, T.cl, T.nG, rfl, _, _, .inl rfl, .inl rfl, by rw [List.length_map, List.length_map]; exact Nat.le_trans hl (by decide), .inl ?_⟩
    rw [← List.map_append]
    intro a ha
    refine ⟨a, _, n, _, rfl, setM_at, .inl rfl, ok.app ok' hl, rfl, _, _, setM_at, .inl ?_⟩
    rw [setM_setM, remM_setM ha]
    exact .inl h
def dsp_Net_mul (C : Addr) : DSp := fun ds μ Q => ∃ (n m : Nat) (gs : List Gt), ds = [netD C n gs, .i m] ∧ NetOk n gs ∧ m * gs.length ≤ 400 ∧ m ≤ 1000 ∧ Q (netD C n (repG m gs)) μ
theorem c_mul (T : Txt K mg C) : ∃ f fd, FnOk P w K mg base C8.CX0 8 f fd ["self", "other"] (spD K (dsp_Net_mul C)) ∧ PySem.W.findIn K (.ref C) (PySem.dunder Operator.Mult.info.2) = some (some (.ref f)) ∧ PySem.W.isFn K (.ref f) = true ∧ Binds K fd ["self", "other"] [] := by
  obtain ⟨f, fd, F, h1, h2, b⟩ := T.i_mul
  obtain ⟨uc, kc⟩ := T.cI
  refine ⟨f, fd, fnD (dsp := dsp_Net_mul C) F sc_Net_mul (fun ds μ Q h => ?_) (fun cdv A outer s H E hr _ => ?_), h1, h2, b⟩
  · obtain ⟨n, m, gs, rfl, _⟩ := h
    rfl
  · refine ⟨_, (pss_cons (ps_expr (C8.pe_c (c_check_many T) hr (by decide) rfl (pa_cons (pv 1) pa_nil)))
      (pss_cons (ps_if (pt_cmpR op_gt (pe_op op_mul (pe_callB call_len_seq (by rfl) T.b_len (by decide +kernel) (pa_cons (pe_fld (pv 0) rfl) pa_nil)) (pv 1)) (pe_con (pv 0) rfl) (nomark _))
       (pss_one ps_never)
       pss_nil)
      (pss_cons (ps_set (i := 2) sc_Net_mul.nd rfl (Or.inl rfl) (pe_ifExp (pt_truth (pe_fld (pv 0) rfl) (fun _ => rfl)) (pv 1) pe_int))
      (pss_one (ps_ret (C8.pe_mk (c_Net T) hr (by decide) rfl (pa_cons (pe_fld (pv 0) rfl) (pa_cons (pe_op op_rep (pe_fld (pv 0) rfl) (pv 2)) pa_nil)))))))), ?_⟩
    dsimp only [cxOf, Cx.nox]
    refine ⟨_, inferInstance, fun ds μ Q h => ?_⟩
    obtain ⟨n, m, gs, rfl, ok, hl, hm, h⟩ := h
    have hlen : (gs.map Gt.da).length = gs.length := List.length_map ..
    have few := ok.few
    have hli : (gs.length : Int) * (m : Int) ≤ 400 := by
      rw [Int.mul_comm]
      exact_mod_cast hl
    simp only [dVar, dC, dOp, dUn, dI0, dU, dEq, dNe, dIsN, dIxL, dIxT, dIn, dCat, dRep, dTest, dAnd, dOr, dNot, dYes, dAndV, dOrV, dNotV, dIf, dChain, dNil, dCons, dTup, dLst, dCall, dCallD, dFld, dCon, dCVal, dMeth, dProp, dMake, dMakeD, dCallO, dCB, dLen, dListOf, dTupleOf, d2I, d1I, dInt1, dDivmod, dInts, dBools, dIsi, dBM, dAppend, dNoPart, dPart, dSl, dOwn2, dOwnI, dOwnN, dEqD, dName, dgNil, dgCons, dgTup, dSub, dSetL, dNext, dSeq, dBreak, dCont, dDrop, dRet, dRetN, dIfS, dAsg, dPar, dSetF, dI, endD, startR, Option.some.injEq, Da.v.injEq, Da.tup.injEq, Da.lst.injEq, V.int.injEq, V.bl.injEq, V.str.injEq, V.ref.injEq, exists_eq_left', exists_eq_left, exists_and_left, List.cons.injEq, and_true, true_and, and_assoc, exists_eq, List.map_cons, List.map_nil, List.length_cons, List.length_nil, List.cons_append, List.nil_append, List.append_nil, List.replicate_succ, List.replicate_zero, List.getElem?_cons_succ, List.getElem?_cons_zero, List.set_cons_succ, List.set_cons_zero, List.length_map, if_true, Bool.false_eq_true, if_false, reduceIte, Nat.reduceAdd, Nat.reduceSub, Nat.zero_add, exists_const, exists_false, List.length_replicate, fzv_b, fzv_i, fzv_s, fzv_n, fzv_t, fzv_l, fzv_o, dIsiTE, dMakeL, dCMeth, dReprD, dReprL, dTruth, scal_ii, scal_ss, scal_bb, Cell.ml.injEq, Cell.mi.injEq, reduceCtorEq, Bool.true_eq_false, not_true_eq_false, not_false_eq_true, Int.natCast_nonneg, Int.ofNat_lt, Int.ofNat_le, Int.natCast_inj, isi_ii, isi_ib, isi_ss, isi_tt, sq_t, sq_l, lst_l, lstT_l, ins_o, ins_oC, fld_cons, ofStr_eq, String.reduceEq, Bool.not_true, Bool.not_false, Bool.not_eq_true', decide_eq_false_iff_not, decide_eq_true_eq, dNever, N_Net_mul, dsp_check_many, netD, fldN, T.cl, T.nG, T.nL]
    refine ⟨.inl ⟨by omega, by omega⟩, _, _, kc, by simp [ofStr_eq], _, rfl, ?_⟩
    rw [if_neg (by omega)]
    refine ⟨_, .l .l, ?_⟩
    by_cases he : gs = []
    · subst he
      rw [if_neg (by simp)]
      refine ⟨0, rfl, by decide, by decide, .inl fun a ha => ?_⟩
      have e0 : repG m [] = [] := List.length_eq_zero_iff.mp (by rw [len_rep]; rfl)
      rw [e0] at h
      refine ⟨a, _, n, [], rfl, setM_at, .inl rfl, ok, rfl, _, _, setM_at, ?_⟩
      rw [setM_setM, remM_setM ha]
      exact .inl h
    · rw [if_pos (by cases gs with | nil => exact absurd rfl he | cons _ _ => rfl)]
      have hn : gs.length * m ≤ 400 := by exact_mod_cast hli
      refine ⟨by omega, Nat.le_trans hn (by decide), .inl fun a ha => ?_⟩
      refine ⟨a, _, n, repG m gs, rfl, setM_at, .inl (by rw [rep_map]), ok.rep hl, rfl, _, _, setM_at, ?_⟩
      rw [setM_setM, remM_setM ha]
      exact .inl h
/-! ### contents -/
/-- new rows: as data, or as cells -/
def NewRows (rows : List (List Int)) (μ : Mu) (P : DP) : Prop := P (rowsD rows) μ ∨ ∀ (r : Addr) (bs : List Addr) (μ' : Mu), μ r = none → bs.length = rows.length → (∀ b ∈ bs, μ b = none ∧ b ≠ r) → bs.Nodup → μ' r = some (.ml (bs.map Da.r)) →
  (∀ (i : Nat) b row, bs[i]? = some b → rows[i]? = some row → μ' b = some (.ml (row.map Da.i))) → (∀ b, b ≠ r → b ∉ bs → μ' b = μ b) → P (.r r) μ'
theorem rows_snoc {α : Type} (f : Nat → α) (i : Nat) : (List.range (i + 1)).map f = (List.range i).map f ++ [f i] := by
  rw [List.range_succ, List.map_append]
  rfl
theorem at_last {α : Type} {xs : List α} {x : α} : atI (xs ++ [x]) (-1) = some x := by
  unfold atI ixN
  rw [if_neg (by decide), if_pos (by rw [List.length_append]; show -(((xs.length + 1 : Nat)) : Int) ≤ -1; omega)]
  show (xs ++ [x])[((-1 : Int) + ((xs ++ [x]).length : Int)).toNat]? = some x
  rw [List.length_append, show ((-1 : Int) + ((xs.length + [x].length : Nat) : Int)).toNat = xs.length by show ((-1 : Int) + ((xs.length + 1 : Nat) : Int)).toNat = _; omega, List.getElem?_append_right (Nat.le_refl _), Nat.sub_self]
  rfl
/-- the rows as they come -/
structure GrowM (μ : Mu) (p : Addr) (bs : List Addr) (rows : List (List Int)) (μ' : Mu) : Prop where
  p0 : μ p = none
  len : bs.length = rows.length
  new : ∀ b ∈ bs, μ b = none ∧ b ≠ p
  nd : bs.Nodup
  at_ : μ' p = some (.ml (bs.map Da.r))
  row : ∀ (i : Nat) b row, bs[i]? = some b → rows[i]? = some row → μ' b = some (.ml (row.map Da.i))
  off : ∀ b, b ≠ p → b ∉ bs → μ' b = μ b
theorem GrowM.none {μ μ' : Mu} {p q : Addr} {bs : List Addr} {rows : List (List Int)} (h : GrowM μ p bs rows μ') (hq : μ' q = none) : q ≠ p ∧ q ∉ bs ∧ μ q = none := by
  have h1 : q ≠ p := fun z => by rw [z, h.at_] at hq; cases hq
  have h2 : q ∉ bs := fun z => by
    obtain ⟨i, hi⟩ := List.mem_iff_getElem?.mp z
    have hl := (List.getElem?_eq_some_iff.mp hi).1
    rw [h.row i q _ hi (List.getElem?_eq_getElem (by rw [← h.len]; exact hl))] at hq
    cases hq
  exact ⟨h1, h2, by rw [← h.off q h1 h2]; exact hq⟩
theorem GrowM.one {μ : Mu} {p b : Addr} {row : List Int} (hb : μ b = .none) (hp : setM μ b (.ml (row.map Da.i)) p = .none) : GrowM μ p [b] [row] (setM (setM μ b (.ml (row.map Da.i))) p (.ml [.r b])) := by
  have ne : p ≠ b := fun z => by rw [z, setM_at] at hp; cases hp
  rw [setM_ne ne] at hp
  refine ⟨hp, rfl, fun c hc => by rw [List.mem_singleton.mp hc]; exact ⟨hb, ne.symm⟩, by simp, setM_at, fun i c r h1 h2 => ?_, fun c h1 h2 => ?_⟩
  · cases i with
    | zero =>
      cases h1
      cases h2
      rw [setM_ne ne.symm, setM_at]
    | succ n => simp at h1
  · rw [setM_ne h1, setM_ne (fun z => h2 (by rw [z]; exact List.mem_cons_self))]
theorem GrowM.step {μ μ' : Mu} {p q : Addr} {bs : List Addr} {rows : List (List Int)} {row : List Int} (h : GrowM μ p bs rows μ') (hq : μ' q = .none) :
    GrowM μ p (bs ++ [q]) (rows ++ [row]) (setM (setM μ' q (.ml (row.map Da.i))) p (.ml (bs.map Da.r ++ [.r q]))) := by
  obtain ⟨h1, h2, h3⟩ := h.none hq
  refine ⟨h.p0, by rw [List.length_append, List.length_append, h.len]; rfl, fun b hb => ?_, ?_, by rw [setM_at, List.map_append]; rfl, fun i b r e1 e2 => ?_, fun b n1 n2 => ?_⟩
  · rcases List.mem_append.mp hb with hb | hb
    · exact h.new b hb
    · rw [List.mem_singleton.mp hb]; exact ⟨h3, h1⟩
  · refine List.nodup_append.mpr ⟨h.nd, by simp, fun a ha b hb => ?_⟩
    rw [List.mem_singleton.mp hb]
    exact fun z => h2 (by rw [← z]; exact ha)
  · by_cases hi : i < bs.length
    · rw [List.getElem?_append_left hi] at e1
      rw [List.getElem?_append_left (by rw [← h.len]; exact hi)] at e2
      have m := List.mem_of_getElem? e1
      rw [setM_ne (h.new b m).2, setM_ne (fun z => h2 (by rw [← z]; exact m))]
      exact h.row i b r e1 e2
    · rw [List.getElem?_append_right (by omega)] at e1
      rw [List.getElem?_append_right (by rw [← h.len]; omega), ← h.len] at e2
      cases hk : i - bs.length with
      | zero =>
        rw [hk] at e1 e2
        cases e1
        cases e2
        rw [setM_ne h1, setM_at]
      | succ n => rw [hk] at e1; simp at e1
  · have n3 : b ∉ bs := fun z => n2 (List.mem_append_left _ z)
    rw [setM_ne n1, setM_ne (fun z => n2 (List.mem_append_right _ (by rw [z]; exact List.mem_cons_self)))]
    exact h.off b n1 n3
theorem GrowM.last {μ μ' : Mu} {p : Addr} {bs : List Addr} {rows : List (List Int)} {row : List Int} (h : GrowM μ p bs (rows ++ [row]) μ') : ∃ b, atI (bs.map Da.r) (-1) = some (.r b) ∧ μ' b = some (.ml (row.map Da.i)) := by
  have hl := h.len
  rw [List.length_append] at hl
  have hl' : bs.length = rows.length + 1 := hl
  obtain ⟨b, e1⟩ : ∃ b, bs[rows.length]? = some b := ⟨_, List.getElem?_eq_getElem (by omega)⟩
  refine ⟨b, ?_, h.row _ _ _ e1 (by rw [List.getElem?_append_right (Nat.le_refl _), Nat.sub_self]; rfl)⟩
  have e2 : bs.take rows.length ++ [b] = bs := by rw [← getE_take e1, List.take_of_length_le (by omega)]
  have e3 : (bs.take rows.length).map Da.r ++ [Da.r b] = bs.map Da.r := by
    have q := congrArg (List.map Da.r) e2
    rw [List.map_append] at q
    exact q
  rw [← e3]
  exact at_last
end
end LL

set_option synthInstance.maxSize 100000
set_option synthInstance.maxHeartbeats 4000000
namespace LL
open PySem L2 PySem.Spec PyProof.Rows
section
variable {P : Program} {w : World} {K : PySem.W.Frag} {mg : Str → Option Value} {base : Heap} {C : Addr}
/-! ### Net.of -/
def dsp_of (C : Addr) : DSp := fun ds μ Q => ∃ (n : Nat) (gs : List Gt), ds = [.r C, .i n, .tup (gs.map Gt.da)] ∧ NetOk n gs ∧ Q (netD C n gs) μ
def dsp_ofs (C : Addr) : DSp := fun ds μ Q => ∃ (n : Nat) (gs : List Gt), ds = .r C :: .i n :: gs.map Gt.da ∧ NetOk n gs ∧ Q (netD C n gs) μ
theorem c_of (T : Txt K mg C) : ∃ mc p g, ClX.CRead K C mc ∧ ClX.CMet K C mc "of" p g ∧ FnR P w K mg base CX0 9 g (spD K (dsp_ofs C)) := by
  obtain ⟨mc, p, g, fd, F, r, cm, hb⟩ := T.i_of
  obtain ⟨oc, od, dV, kV, doc, pm, an, cdv, ct, osl, rfl, lk, hc⟩ := F.ex
  refine ⟨mc, p, g, r, cm, (StX.fn_star (sp := spD K (dsp_of C)) (ps := ["cls", "lanes"]) (pv := "gates") (k := 8) lk hc sc_Net_of StX.cxUp_none hb (fun A outer s H vs Q E hr h => ?_)).imp fun vs H Q E h => ?_⟩
  · have body : ∃ t, PSs (cxOf CX0 P w K mg base N_Net_of "Net.of" (C8.fnScope s_Net_of) g cdv A outer s H E).nox (C8.fnBody s_Net_of) t ∧ ∃ de, SoS K t de ∧ ∀ ds μ Q, dsp_of C ds μ Q → de (endD Q) (startR N_Net_of ds) μ := by
      refine ⟨_, (pss_one (ps_ret (pe_mkL (i := 0) (c_Net T) hr (by decide) rfl (.inl rfl) (pa_cons (pv 1) (pa_cons (pv 2) pa_nil))))), ?_⟩
      dsimp only [cxOf, Cx.nox]
      refine ⟨_, inferInstance, fun ds μ Q h => ?_⟩
      obtain ⟨n, gs, rfl, ok, h⟩ := h
      refine ⟨rfl, _, rfl, _, rfl, ?_⟩
      intro a ha
      refine ⟨a, _, n, gs, rfl, setM_at, .inr rfl, ok, rfl, _, _, setM_at, .inl ?_⟩
      rw [setM_setM, remM_setM ha]
      exact .inl h
    obtain ⟨t, h1, de, h2, h3⟩ := body
    exact ⟨t, h1.nox, body_run h2 h3 h⟩
  · obtain ⟨I, μ, ds, R, st, a, ⟨n, gs, rfl, ok, q⟩, k⟩ := h
    match vs, a with
    | v1 :: v2 :: rest, .cons a1 (.cons a2 a3) =>
      refine ⟨[v1, v2], rest, rfl, rfl, ?_, fun x hx => ?_⟩
      · rw [a3.length, List.length_map]
        have := ok.few
        exact Nat.le_of_lt (Nat.lt_of_lt_of_le (by omega : gs.length < 100000) (by decide))
      · have s := same_new (o := .tup rest) (st.noI hx)
        exact ⟨_, μ, [.r C, .i n, .tup (gs.map Gt.da)], R, st.new hx, .cons (a1.to s) (.cons (a2.to s) (.cons (.tup (SqT.of upd_same) (a3.to s)) .nil)), ⟨n, gs, rfl, ok, q⟩, CoE.to s k⟩
/-! ### how a net is told -/
def Gt.py : Gt → PyData
  | .low i j => .tuple [.str "low", .int i, .int j]
  | .high i j => .tuple [.str "high", .int i, .int j]
  | .sort i j => .tuple [.str "sort", .int i, .int j]
  | .copy i j => .tuple [.str "copy", .int i, .int j]
  | .add i c => .tuple [.str "add", .int i, .int c]
theorem g_py (g : Gt) : g.da.py = some g.py := by cases g <;> rfl
theorem gs_py : ∀ gs : List Gt, pyAll (gs.map Gt.da) = some (gs.map Gt.py)
  | [] => rfl
  | g :: r => by
    show pyAll (g.da :: r.map Gt.da) = _
    unfold pyAll
    rw [g_py, gs_py r]
    rfl
theorem all_depth {α : Type} {f : α → PyData} {n : Nat} (h : ∀ a, (f a).depth ≤ n) : ∀ l : List α, PyData.depthAll (l.map f) ≤ n
  | [] => Nat.zero_le _
  | a :: r => Nat.max_le.mpr ⟨h a, all_depth h r⟩
theorem g_depth (g : Gt) : g.py.depth ≤ 1 := by cases g <;> exact Nat.le_refl 1
theorem gs_noDict : ∀ gs : List Gt, PyData.hasDictAll (gs.map Gt.py) = false
  | [] => rfl
  | g :: r => by
    show (g.py.hasDict || PyData.hasDictAll (r.map Gt.py)) = false
    rw [gs_noDict r]
    cases g <;> rfl
def gsTexts (gs : List Gt) : List Str := PyData.shownAll (gs.map Gt.py)
def netText (n : Nat) (gs : List Gt) : Str := Str.empty ++ ("Net(" : Str) ++ (toString (n : Int) : Str) ++ (", " : Str) ++ listText (gsTexts gs) ++ (")" : Str)
/-- the net at p is told as t -/
def RTold (K : PySem.W.Frag) (C : Addr) (p : Addr) (t : Str) (H : Hp) : Prop := ∃ (n : Nat) (gs : List Gt), n ≤ 12 ∧ At K H (.ref p) (netD C n gs) ∧ PyData.showableAll (gs.map Gt.py) = true ∧ (netText n gs).length ≤ sizeLine ∧ t = netText n gs
theorem net_at {H : Hp} {p : Addr} {n : Nat} {gs : List Gt} (h : At K H (.ref p) (netD C n gs)) : ∃ dx l xs, H p = some (.ins C dx [("_lanes", .int n), ("_gates", .ref l)]) ∧ H l = some (.lst xs) ∧ AtAll K H xs (gs.map Gt.da) := by
  cases h with | @obj _ _ dx fs _ _ h1 h2 h3 =>
  match fs, h2, h3 with
  | [(a, u), (b, v)], h2, .cons q1 (.cons q2 .nil) =>
    have e1 : a = "_lanes" := (List.cons.inj h2).1
    have e2 : b = "_gates" := (List.cons.inj (List.cons.inj h2).2).1
    subst e1 e2
    obtain rfl := q1.val
    cases q2 with | lst r1 r2 => exact ⟨dx, _, _, h1, r1, r2⟩
theorem c_repr (T : Txt K mg C) (a : Addr) : ∃ f fd, FnQ (Und a) P w K mg base 2 f fd ["self"] (spRepr a (RTold K C)) ∧ PySem.W.findIn K (.ref C) "__repr__" = some (some (.ref f)) ∧ PySem.W.isFn K (.ref f) = true ∧ Binds K fd ["self"] [] := by
  obtain ⟨f, fd, F, h1, h2, b⟩ := T.i_repr
  refine ⟨f, fd, fnQ0 (und_deep a) F sc_Net_repr (fun vs H Q E h => ?_) (fun cdv A outer s H vs Q E hr hA h => ?_), h1, h2, b⟩
  · obtain ⟨p, t, rfl, _⟩ := h
    rfl
  · obtain ⟨p, t, rfl, ⟨n, gs, hn, N, h3, h4, rfl⟩, odd, k⟩ := h
    obtain ⟨dx, l, xs, hp, hl, hA2⟩ := net_at N
    refine ⟨_, (pss_one (ps_ret (pe_joined (.cons pe_str (.cons (pe_fmt (pe_fld (pv 0) rfl)) (.cons pe_str (.cons (pe_fmtD hA hr (pe_fld (pv 0) rfl)) (.cons pe_str .nil)))))))), ?_⟩
    have lens : (Str.empty ++ ("Net(" : Str)).length ≤ sizeLine ∧ (Str.empty ++ ("Net(" : Str) ++ (toString (n : Int) : Str)).length ≤ sizeLine ∧ (Str.empty ++ ("Net(" : Str) ++ (toString (n : Int) : Str) ++ (", " : Str)).length ≤ sizeLine ∧
        (Str.empty ++ ("Net(" : Str) ++ (toString (n : Int) : Str) ++ (", " : Str) ++ listText (gsTexts gs)).length ≤ sizeLine ∧ (listText (gsTexts gs)).length ≤ sizeLine := by
      unfold netText at h4
      simp only [strLen_append] at h4 ⊢
      omega
    refine ⟨_, rfl, lens.1, _, rfl, p, C, dx, _, _, rfl, hp, T.cl, T.nL, rfl, .inr ⟨n, rfl, ?_, ?_⟩⟩
    · exact Nat.lt_of_le_of_lt (Nat.log2_le_self _) (by simp; omega)
    refine ⟨_, rfl, lens.2.1, _, rfl, lens.2.2.1, ?_⟩
    refine ⟨_, rfl, p, C, dx, _, _, rfl, hp, T.cl, T.nG, rfl, l, xs, gs.map Gt.py, rfl, SqL.of hl, AtAll.dp (Same.refl _) hA2 (gs_py gs), odd, h3, gs_noDict gs, ?_, lens.2.2.2.2, ?_⟩
    · exact Nat.le_trans (all_depth (f := Gt.py) g_depth gs) (by decide)
    exact ⟨_, rfl, lens.2.2.2.1, _, rfl, h4, k _ (fun _ _ z => z)⟩
def DNet (K : PySem.W.Frag) (C : Addr) : V → Str → Hp → Prop := fun x t H => TOwn C (RTold K C) x t H ∨ TData K x t H
mutual
theorem dp_ext {H H' : Hp} (e : Ext H H') : ∀ {d : PyData} {v : V}, Dp K H v d → Dp K H' v d
  | .none, _, h => by cases h; exact .non
  | .bool b, _, h => by cases h; exact .bl b
  | .int i, _, h => by cases h; exact .int i
  | .str x, _, h => by cases h; exact .str x
  | .list ds, _, h => by cases h with | lst h1 h2 => exact .lst (h1.ext e) (dpAll_ext e h2)
  | .tuple ds, _, h => by cases h with | tup h1 h2 => exact .tup (h1.ext e) (dpAll_ext e h2)
  | .dict _, _, h => by cases h
theorem dpAll_ext {H H' : Hp} (e : Ext H H') : ∀ {ds : List PyData} {vs : List V}, DpAll K H vs ds → DpAll K H' vs ds
  | [], _, h => by cases h; exact .nil
  | d :: ds, _, h => by cases h with | cons h1 h2 => exact .cons (dp_ext e h1) (dpAll_ext e h2)
end
theorem dnet_ext : ∀ x t H H', Ext H H' → DNet K C x t H → DNet K C x t H' := fun x t H H' e h => h.elim (fun ⟨p, dx, fs, ex, hp, n, gs, r1, r2, r3⟩ => .inl ⟨p, dx, fs, ex, e _ _ hp, n, gs, r1, r2.to (fun b o z => e b o z), r3⟩) fun ⟨d, hd, r⟩ => .inr ⟨d, dp_ext e hd, r⟩
theorem tells_or {X : Cx} {n : Nat} {a : Addr} {D D' : V → Str → Hp → Prop} (h : Tells X n a D) (h' : Tells X n a D') : Tells X n a (fun x t H => D x t H ∨ D' x t H) := fun B pins s σ G x t u c rm fr hB I ru d => d.elim (fun d => h B pins s σ G x t u c rm fr hB I ru d) fun d => h' B pins s σ G x t u c rm fr hB I ru d
theorem tells_net {X : Cx} {C : Addr} (T : Txt X.K X.mg C) (a : Addr) : Tells X 2 a (DNet X.K C) := by
  obtain ⟨f, fd, F, h1, h2, b⟩ := c_repr (P := X.prog) (w := X.w) (base := X.base) T a
  exact tells_or (tells_own F h1 h2 b) tells_data
theorem units100 {k : Nat} {A : Around} (r : Room k A) : A.units + 100 < cLine := by have := r.un; omega
def Gt.mild : Gt → Bool
  | .add _ c => decide (c.natAbs ≤ 10 ^ 20)
  | _ => true
theorem tld_g {g : Gt} {n : Nat} (ho : g.ok n) (hn : n ≤ 12) (hm : g.mild = true) : Tld 1 150 g.da := by
  have sm : ∀ i : Nat, i < n → (((i : Nat) : Int)).natAbs < 10 ^ 40 := fun i hi => by rw [Int.natAbs_natCast]; exact Nat.lt_of_lt_of_le hi (Nat.le_trans hn (by decide +kernel))
  refine (tld_t (n := 0) (m := 45) (ds := g.vs.map Da.v) fun d hd => ?_).mono (Nat.le_refl _) (by cases g <;> exact (by decide : (45 + 2) * 3 + 3 ≤ 150))
  cases g with
  | add i c =>
    simp only [Gt.vs, List.map_cons, List.map_nil, List.mem_cons, List.not_mem_nil, or_false] at hd
    rcases hd with rfl | rfl | rfl
    · exact tld_s (by decide +kernel)
    · exact tld_i (sm _ ho)
    · exact tld_i (Nat.lt_of_le_of_lt (of_decide_eq_true hm) (by decide +kernel))
  | _ i j =>
    simp only [Gt.vs, List.map_cons, List.map_nil, List.mem_cons, List.not_mem_nil, or_false] at hd
    rcases hd with rfl | rfl | rfl
    · exact tld_s (by decide +kernel)
    · exact tld_i (sm _ ho.1)
    · exact tld_i (sm _ ho.2.1)
theorem tld_gs {n : Nat} {gs : List Gt} (ok : NetOk n gs) (hm : ∀ g ∈ gs, g.mild = true) : Tld 2 70000 (.lst (gs.map Gt.da)) := by
  refine (tld_l (n := 1) (m := 150) fun d hd => ?_).mono (Nat.le_refl _) ?_
  · obtain ⟨g, h, rfl⟩ := List.mem_map.mp hd
    exact tld_g (ok.ok g h) ok.high (hm g h)
  · rw [List.length_map]
    have := ok.few
    omega
theorem net_len {n : Nat} {gs : List Gt} (ok : NetOk n gs) (hm : ∀ g ∈ gs, g.mild = true) : PyData.showableAll (gs.map Gt.py) = true ∧ (netText n gs).length ≤ 70100 := by
  obtain ⟨e, a, b, _, d⟩ := tld_gs ok hm
  have a' : (pyAll (gs.map Gt.da)).map PyData.list = some e := a
  rw [gs_py] at a'
  cases a'
  obtain ⟨q1, q2, _⟩ := told b
  have g : (PyData.int (n : Int)).shown.length ≤ 45 := (told (d := .int (n : Int)) (by
    show decide (((n : Nat) : Int).natAbs < 10 ^ 40) = true
    exact decide_eq_true (by rw [Int.natAbs_natCast]; exact Nat.lt_of_le_of_lt ok.high (by decide +kernel)))).1
  refine ⟨q2, ?_⟩
  unfold netText
  simp only [strLen_append]
  have e1 : (Str.empty : Str).length = 0 := rfl
  have e2 : (("Net(" : Str)).length = 4 := by decide +kernel
  have e3 : ((", " : Str)).length = 2 := by decide +kernel
  have e4 : ((")" : Str)).length = 1 := by decide +kernel
  have g' : (toString (n : Int) : Str).length ≤ 45 := g
  have c' : (listText (gsTexts gs)).length ≤ wt (PyData.list (gs.map Gt.py)) := q1
  omega
/-- what a net is told as, and data -/
def txN (C : Addr) : Da → Str → Prop := fun d t => (∃ (n : Nat) (gs : List Gt), d = netD C n gs ∧ NetOk n gs ∧ (∀ g ∈ gs, g.mild = true) ∧ t = netText n gs) ∨ (∃ n m, n ≤ 60 ∧ m ≤ 16000000 ∧ Tld n m d ∧ t = txD d)
instance : TellD K (DNet K C) (txN C) := ⟨fun {d t} h {v I H} s a => by
  rcases h with ⟨n, gs, rfl, ok, hm, rfl⟩ | ⟨n, m, hn, hm, ⟨e, h1, h2, h3, h4⟩, rfl⟩
  · obtain ⟨q1, q2⟩ := net_len ok hm
    obtain ⟨p, rfl⟩ : ∃ p, v = .ref p := by cases a; exact ⟨_, rfl⟩
    obtain ⟨dx, l, xs, hp, _⟩ := net_at (a.to s)
    exact .inl ⟨p, dx, _, rfl, hp, n, gs, ok.high, a.to s, q1, Nat.le_trans q2 (by decide), rfl⟩
  · obtain ⟨q1, q2, q3⟩ := told h2
    refine .inr ⟨e, a.dp s h1, q2, q3, Nat.le_trans h3 hn, Nat.le_trans (Nat.le_trans q1 h4) (Nat.le_trans hm (by decide)), ?_⟩
    unfold txD
    rw [h1]⟩
/-- repr([net, data]) -/
theorem reprN {n k m : Nat} {gs : List Gt} {x : Da} {μ : Mu} {Q : DP} (ok : NetOk n gs) (hm : ∀ g ∈ gs, g.mild = true) (hx : Tld k m x) (hk : k ≤ 60) (h1 : m ≤ 100000) (q : Q (.s (listText [netText n gs, txD x])) μ) : dReprL (txN C) [.lst [netD C n gs, x]] μ Q := by
  refine ⟨_, [netText n gs, txD x], rfl, ⟨C, _, _, List.mem_cons_self⟩, ⟨rfl, fun i d t e1 e2 => ?_⟩, ?_, q⟩
  · match i with
    | 0 => cases e1; cases e2; exact .inl ⟨n, gs, rfl, ok, hm, rfl⟩
    | 1 => cases e1; cases e2; exact .inr ⟨k, m, hk, by omega, hx, rfl⟩
    | j + 2 => simp at e1
  · have a := (net_len ok hm).2
    obtain ⟨e, h2, h3, h4, h5⟩ := hx
    have b := (told h3).1
    have c : (txD x).length ≤ 100000 := by
      unfold txD
      rw [h2]
      show e.shown.length ≤ 100000
      omega
    have f := listText_le [netText n gs, txD x]
    have g : piled [netText n gs, txD x] ≤ 200000 := by
      rw [piled_cons, piled_cons]
      have : piled ([] : List Str) = 0 := rfl
      omega
    exact Nat.le_trans (by omega : _ ≤ 300000) (by decide)
end
end LL

set_option synthInstance.maxSize 100000
set_option synthInstance.maxHeartbeats 4000000
namespace LL
open PySem L2 PySem.Spec PyProof.Rows
theorem mod_ne {d e n : Int} (d0 : 0 ≤ d) (d1 : d < n) (e0 : 0 ≤ e) (e1 : e < n - 1) : 0 ≤ (d + 1 + e) % n ∧ (d + 1 + e) % n < n ∧ (d + 1 + e) % n ≠ d := by
  have hp : 0 < n := by omega
  refine ⟨Int.emod_nonneg _ (by omega), Int.emod_lt_of_pos _ hp, ?_⟩
  by_cases h : d + 1 + e < n
  · rw [Int.emod_eq_of_lt (by omega) h]
    omega
  · have q : (d + 1 + e) % n = d + 1 + e - n := by
      have h1 : d + 1 + e = (d + 1 + e - n) + n * 1 := by omega
      rw [h1, Int.add_mul_emod_self_left, Int.emod_eq_of_lt (by omega) (by omega)]
      omega
    rw [q]
    omega
section
variable {P : Program} {w : World} {K : PySem.W.Frag} {mg : Str → Option Value} {base : Heap} {C : Addr}
/-! ### the pot of drawn numbers -/
def dsp_law_draw : DSp := fun ds μ Q => ∃ (a : Addr) (n : Int), ds = [.r a, .i n] ∧ Pt a μ ∧ 1 ≤ n ∧ n < 1073741824 ∧ ∀ d μ', Fr a μ μ' → Pt a μ' → 0 ≤ d → d < n → Q (.i d) μ'
theorem c_law_draw (T : Txt K mg C) : C8.Cal P w K mg base 1 "_law_draw" (spD K dsp_law_draw) [] := by
  obtain ⟨f, fd, D, b⟩ := T.d_law_draw
  refine ⟨f, fd, _, [], fnD (dsp := dsp_law_draw) D.fn sc_law_draw (fun ds μ Q h => ?_) (fun cdv A outer s H E hr _ => ?_), D.mgf, D.kp, b, .nil⟩
  · obtain ⟨a, n, rfl, _⟩ := h
    rfl
  · refine ⟨_, (pss_cons (ps_if (pt_cmpR op_gt (pe_ix ix_list (pv 0) pe_int (fun _ _ => rfl)) pe_int (nomark _))
       (pss_cons (ps_asg (pe_callB call_divmod (by rfl) T.b_divmod (by decide +kernel) (pa_cons (pe_ix ix_list (pv 0) pe_int (fun _ _ => rfl)) (pa_cons (pv 1) pa_nil))) (pg_tup (n := 2) rfl (pgs_cons (pg_sub (pv 0) pe_int set_list) (pgs_cons (pg_name (i := 2) sc_law_draw.nd rfl (Or.inl rfl)) pgs_nil))))
        (pss_one (ps_ret (pv 2))))
       pss_nil)
      (pss_cons (ps_asg (pe_op op_mod (pe_callTy call_int1 (by rfl) T.b_int (by decide +kernel) (pa_cons (pe_op op_add (pe_op op_mul (pe_ix ix_list (pv 0) pe_int (fun _ _ => rfl)) pe_int) pe_int) pa_nil)) pe_int) (pg_sub (pv 0) pe_int set_list))
      (pss_one (ps_ret (pe_op op_mod (pe_callTy call_int1 (by rfl) T.b_int (by decide +kernel) (pa_cons (pe_op op_fdiv (pe_op op_mod (pe_callTy call_int1 (by rfl) T.b_int (by decide +kernel) (pa_cons (pe_op op_mul (pe_ix ix_list (pv 0) pe_int (fun _ _ => rfl)) (pe_ix ix_list (pv 0) pe_int (fun _ _ => rfl))) pa_nil)) pe_int) pe_int) pa_nil)) (pv 1)))))), ?_⟩
    dsimp only [cxOf, Cx.nox]
    refine ⟨_, inferInstance, fun ds μ Q h => ?_⟩
    obtain ⟨a, n, rfl, ⟨p0, p1, ha, g0, g1, g2⟩, h1, h2, k⟩ := h
    simp only [dVar, dC, dOp, dUn, dI0, dU, dEq, dNe, dIsN, dIxL, dIxT, dIn, dCat, dRep, dTest, dAnd, dOr, dNot, dYes, dAndV, dOrV, dNotV, dIf, dChain, dNil, dCons, dTup, dLst, dCall, dCallD, dFld, dCon, dCVal, dMeth, dProp, dMake, dMakeD, dCallO, dCB, dLen, dListOf, dTupleOf, d2I, d1I, dInt1, dDivmod, dInts, dBools, dIsi, dBM, dAppend, dNoPart, dPart, dSl, dOwn2, dOwnI, dOwnN, dEqD, dName, dgNil, dgCons, dgTup, dSub, dSetL, dNext, dSeq, dBreak, dCont, dDrop, dRet, dRetN, dIfS, dAsg, dPar, dSetF, dI, endD, startR, Option.some.injEq, Da.v.injEq, Da.tup.injEq, Da.lst.injEq, V.int.injEq, V.bl.injEq, V.str.injEq, V.ref.injEq, exists_eq_left', exists_eq_left, exists_and_left, List.cons.injEq, and_true, true_and, and_assoc, exists_eq, List.map_cons, List.map_nil, List.length_cons, List.length_nil, List.cons_append, List.nil_append, List.append_nil, List.replicate_succ, List.replicate_zero, List.getElem?_cons_succ, List.getElem?_cons_zero, List.set_cons_succ, List.set_cons_zero, List.length_map, if_true, Bool.false_eq_true, if_false, reduceIte, Nat.reduceAdd, Nat.reduceSub, Nat.zero_add, exists_const, exists_false, List.length_replicate, fzv_b, fzv_i, fzv_s, fzv_n, fzv_t, fzv_l, fzv_o, dIsiTE, dMakeL, dCMeth, dReprD, dReprL, dTruth, scal_ii, scal_ss, scal_bb, Cell.ml.injEq, Cell.mi.injEq, reduceCtorEq, Bool.true_eq_false, not_true_eq_false, not_false_eq_true, Int.natCast_nonneg, Int.ofNat_lt, Int.ofNat_le, Int.natCast_inj, isi_ii, isi_ib, isi_ss, isi_tt, sq_t, sq_l, lst_l, lstT_l, ins_o, ins_oC, fld_cons, ofStr_eq, String.reduceEq, Bool.not_true, Bool.not_false, Bool.not_eq_true', decide_eq_false_iff_not, decide_eq_true_eq, dNever, N_law_draw]
    refine ⟨_, .c ha, _, rfl, _, rfl, ?_⟩
    by_cases c : 0 < p0
    · rw [if_pos c]
      exact ⟨_, .c ha, _, rfl, _, rfl, ⟨h1, h2⟩, _, ha, 0, ixN_nat (n := 2) (i := 0) (by decide), k _ _ Fr.set ⟨p0 / n, p1, setM_at, Int.ediv_nonneg g0 (by omega), g1, g2⟩ (Int.emod_nonneg _ (by omega)) (Int.emod_lt_of_pos _ (by omega))⟩
    · rw [if_neg c]
      have hm0 : 0 ≤ (p1 * 39453 + 30053) % 2147483489 := Int.emod_nonneg _ (by decide)
      have hm1 : (p1 * 39453 + 30053) % 2147483489 < 2147483489 := Int.emod_lt_of_pos _ (by decide)
      refine ⟨_, .c ha, _, rfl, _, rfl, .inl ⟨by omega, by omega⟩, by decide, _, ha, 1, ixN_nat (n := 2) (i := 1) (by decide), _, .c setM_at, _, rfl, _, .c setM_at, _, rfl, _, rfl, _, rfl, .inl ⟨by omega, by omega⟩, by decide, ⟨by decide, by decide⟩, by omega, ?_⟩
      exact k _ _ Fr.set ⟨p0, _, setM_at, g0, hm0, by omega⟩ (Int.emod_nonneg _ (by omega)) (Int.emod_lt_of_pos _ (by omega))
def dsp_law_pick : DSp := fun ds μ Q => ∃ (a : Addr) (xs : List Da), ds = [.r a, .lst xs] ∧ Pt a μ ∧ 1 ≤ xs.length ∧ xs.length ≤ 1000 ∧ ∀ d μ', Fr a μ μ' → Pt a μ' → d ∈ xs → Q d μ'
theorem c_law_pick (T : Txt K mg C) : C8.Cal P w K mg base 2 "_law_pick" (spD K dsp_law_pick) [] := by
  obtain ⟨f, fd, D, b⟩ := T.d_law_pick
  refine ⟨f, fd, _, [], fnD (dsp := dsp_law_pick) D.fn sc_law_pick (fun ds μ Q h => ?_) (fun cdv A outer s H E hr _ => ?_), D.mgf, D.kp, b, .nil⟩
  · obtain ⟨a, xs, rfl, _⟩ := h
    rfl
  · refine ⟨_, (pss_one (ps_ret (pe_ix ix_list (pv 1) (C8.pe_c (c_law_draw T) hr (by decide) rfl (pa_cons (pv 0) (pa_cons (pe_callB call_len_seq (by rfl) T.b_len (by decide +kernel) (pa_cons (pv 1) pa_nil)) pa_nil))) (fun _ _ => rfl)))), ?_⟩
    dsimp only [cxOf, Cx.nox]
    refine ⟨_, inferInstance, fun ds μ Q h => ?_⟩
    obtain ⟨a, xs, rfl, pt, h1, h2, k⟩ := h
    simp only [dVar, dC, dOp, dUn, dI0, dU, dEq, dNe, dIsN, dIxL, dIxT, dIn, dCat, dRep, dTest, dAnd, dOr, dNot, dYes, dAndV, dOrV, dNotV, dIf, dChain, dNil, dCons, dTup, dLst, dCall, dCallD, dFld, dCon, dCVal, dMeth, dProp, dMake, dMakeD, dCallO, dCB, dLen, dListOf, dTupleOf, d2I, d1I, dInt1, dDivmod, dInts, dBools, dIsi, dBM, dAppend, dNoPart, dPart, dSl, dOwn2, dOwnI, dOwnN, dEqD, dName, dgNil, dgCons, dgTup, dSub, dSetL, dNext, dSeq, dBreak, dCont, dDrop, dRet, dRetN, dIfS, dAsg, dPar, dSetF, dI, endD, startR, Option.some.injEq, Da.v.injEq, Da.tup.injEq, Da.lst.injEq, V.int.injEq, V.bl.injEq, V.str.injEq, V.ref.injEq, exists_eq_left', exists_eq_left, exists_and_left, List.cons.injEq, and_true, true_and, and_assoc, exists_eq, List.map_cons, List.map_nil, List.length_cons, List.length_nil, List.cons_append, List.nil_append, List.append_nil, List.replicate_succ, List.replicate_zero, List.getElem?_cons_succ, List.getElem?_cons_zero, List.set_cons_succ, List.set_cons_zero, List.length_map, if_true, Bool.false_eq_true, if_false, reduceIte, Nat.reduceAdd, Nat.reduceSub, Nat.zero_add, exists_const, exists_false, List.length_replicate, fzv_b, fzv_i, fzv_s, fzv_n, fzv_t, fzv_l, fzv_o, dIsiTE, dMakeL, dCMeth, dReprD, dReprL, dTruth, scal_ii, scal_ss, scal_bb, Cell.ml.injEq, Cell.mi.injEq, reduceCtorEq, Bool.true_eq_false, not_true_eq_false, not_false_eq_true, Int.natCast_nonneg, Int.ofNat_lt, Int.ofNat_le, Int.natCast_inj, isi_ii, isi_ib, isi_ss, isi_tt, sq_t, sq_l, lst_l, lstT_l, ins_o, ins_oC, fld_cons, ofStr_eq, String.reduceEq, Bool.not_true, Bool.not_false, Bool.not_eq_true', decide_eq_false_iff_not, decide_eq_true_eq, dNever, N_law_pick]
    refine ⟨a, _, rfl, pt, by omega, by omega, fun d μ' f pt' d0 d1 => ?_⟩
    have hd : d.toNat < xs.length := by omega
    refine ⟨d, rfl, xs[d.toNat], ?_, .inl (k _ _ f pt' (List.getElem_mem hd))⟩
    have e : ((d.toNat : Nat) : Int) = d := by omega
    have z := atI_nat' (List.getElem?_eq_getElem hd)
    rw [e] at z
    exact z
/-! ### drawn gates -/
def dsp_law_gate : DSp := fun ds μ Q => ∃ (a : Addr) (n : Nat), ds = [.r a, .i n] ∧ Pt a μ ∧ 1 ≤ n ∧ n ≤ 12 ∧ ∀ (g : Gt) μ', Fr a μ μ' → Pt a μ' → g.ok n → g.mild = true → Q g.da μ'
theorem c_law_gate (T : Txt K mg C) : C8.Cal P w K mg base 3 "_law_gate" (spD K dsp_law_gate) [] := by
  obtain ⟨f, fd, D, b⟩ := T.d_law_gate
  refine ⟨f, fd, _, [], fnD (dsp := dsp_law_gate) D.fn sc_law_gate (fun ds μ Q h => ?_) (fun cdv A outer s H E hr _ => ?_), D.mgf, D.kp, b, .nil⟩
  · obtain ⟨a, n, rfl, _⟩ := h
    rfl
  · refine ⟨_, (pss_cons (ps_set (i := 2) sc_law_gate.nd rfl (Or.inl rfl) (pe_ifExp (pt_cmpR op_gt (pv 1) pe_int (nomark _)) (C8.pe_c (c_law_pick T) hr (by decide) rfl (pa_cons (pv 0) (pa_cons (pe_lst (pa_cons pe_str (pa_cons pe_str (pa_cons pe_str (pa_cons pe_str (pa_cons pe_str pa_nil)))))) pa_nil))) pe_str))
      (pss_cons (ps_set (i := 3) sc_law_gate.nd rfl (Or.inl rfl) (C8.pe_c (c_law_draw T) hr (by decide) rfl (pa_cons (pv 0) (pa_cons (pv 1) pa_nil))))
      (pss_cons (ps_if (pt_cmpR op_eq (pv 2) pe_str (nomark _))
       (pss_one (ps_ret (pe_tup (pa_cons pe_str (pa_cons (pv 3) (pa_cons (C8.pe_c (c_law_pick T) hr (by decide) rfl (pa_cons (pv 0) (pa_cons (pe_lst (pa_cons pe_int (pa_cons pe_int (pa_cons (pe_un un_neg pe_int) (pa_cons pe_int (pa_cons (pe_un un_neg pe_int) (pa_cons pe_int (pa_cons (pe_op op_pow pe_int pe_int) pa_nil)))))))) pa_nil))) pa_nil))))))
       pss_nil)
      (pss_one (ps_ret (pe_tup (pa_cons (pv 2) (pa_cons (pv 3) (pa_cons (pe_op op_mod (pe_callTy call_int1 (by rfl) T.b_int (by decide +kernel) (pa_cons (pe_op op_add (pe_op op_add (pv 3) pe_int) (C8.pe_c (c_law_draw T) hr (by decide) rfl (pa_cons (pv 0) (pa_cons (pe_op op_sub (pv 1) pe_int) pa_nil)))) pa_nil)) (pv 1)) pa_nil))))))))), ?_⟩
    dsimp only [cxOf, Cx.nox]
    refine ⟨_, inferInstance, fun ds μ Q h => ?_⟩
    obtain ⟨a, n, rfl, pt, h1, h2, k⟩ := h
    simp only [dVar, dC, dOp, dUn, dI0, dU, dEq, dNe, dIsN, dIxL, dIxT, dIn, dCat, dRep, dTest, dAnd, dOr, dNot, dYes, dAndV, dOrV, dNotV, dIf, dChain, dNil, dCons, dTup, dLst, dCall, dCallD, dFld, dCon, dCVal, dMeth, dProp, dMake, dMakeD, dCallO, dCB, dLen, dListOf, dTupleOf, d2I, d1I, dInt1, dDivmod, dInts, dBools, dIsi, dBM, dAppend, dNoPart, dPart, dSl, dOwn2, dOwnI, dOwnN, dEqD, dName, dgNil, dgCons, dgTup, dSub, dSetL, dNext, dSeq, dBreak, dCont, dDrop, dRet, dRetN, dIfS, dAsg, dPar, dSetF, dI, endD, startR, Option.some.injEq, Da.v.injEq, Da.tup.injEq, Da.lst.injEq, V.int.injEq, V.bl.injEq, V.str.injEq, V.ref.injEq, exists_eq_left', exists_eq_left, exists_and_left, List.cons.injEq, and_true, true_and, and_assoc, exists_eq, List.map_cons, List.map_nil, List.length_cons, List.length_nil, List.cons_append, List.nil_append, List.append_nil, List.replicate_succ, List.replicate_zero, List.getElem?_cons_succ, List.getElem?_cons_zero, List.set_cons_succ, List.set_cons_zero, List.length_map, if_true, Bool.false_eq_true, if_false, reduceIte, Nat.reduceAdd, Nat.reduceSub, Nat.zero_add, exists_const, exists_false, List.length_replicate, fzv_b, fzv_i, fzv_s, fzv_n, fzv_t, fzv_l, fzv_o, dIsiTE, dMakeL, dCMeth, dReprD, dReprL, dTruth, scal_ii, scal_ss, scal_bb, Cell.ml.injEq, Cell.mi.injEq, reduceCtorEq, Bool.true_eq_false, not_true_eq_false, not_false_eq_true, Int.natCast_nonneg, Int.ofNat_lt, Int.ofNat_le, Int.natCast_inj, isi_ii, isi_ib, isi_ss, isi_tt, sq_t, sq_l, lst_l, lstT_l, ins_o, ins_oC, fld_cons, ofStr_eq, String.reduceEq, Bool.not_true, Bool.not_false, Bool.not_eq_true', decide_eq_false_iff_not, decide_eq_true_eq, dNever, N_law_gate, dsp_law_draw, dsp_law_pick]
    have sz : 7 ≤ sizeLine := by decide
    have adds : ∀ (d : Int) μ1, Fr a μ μ1 → Pt a μ1 → 0 ≤ d → d < n → ∃ xs, Da.lst [.i 0, .i 1, .i (-1), .i 3, .i (-9), .i 12, .i (10 ^ Int.toNat 20)] = .lst xs ∧ Pt a μ1 ∧ 1 ≤ xs.length ∧ xs.length ≤ 1000 ∧ ∀ (e : Da) μ', Fr a μ1 μ' → Pt a μ' → e ∈ xs → 3 ≤ sizeLine ∧ Q (.tup [.s "add", .i d, e]) μ' := fun d μ1 f1 pt1 d0 d1 => by
      refine ⟨_, rfl, pt1, by show 1 ≤ 7; decide, by show 7 ≤ 1000; decide, fun e μ' f pt' he => ⟨by omega, ?_⟩⟩
      have main : ∀ c : Int, c.natAbs ≤ 10 ^ 20 → Q (.tup [.s "add", .i d, .i c]) μ' := fun c hc => by
        have z := k (.add d.toNat c) μ' (f1.trans f) pt' (by show d.toNat < n; omega) (decide_eq_true hc)
        have e : (((d.toNat : Nat)) : Int) = d := by omega
        rw [← e]
        exact z
      simp only [List.mem_cons, List.not_mem_nil, or_false] at he
      rcases he with rfl | rfl | rfl | rfl | rfl | rfl | rfl <;> exact main _ (by decide +kernel)
    by_cases c : (1 : Int) < n
    · rw [if_pos c]
      refine ⟨by omega, .inl ⟨_, rfl, pt, by show 1 ≤ 5; decide, by show 5 ≤ 1000; decide, fun d μ1 f1 pt1 hd => ⟨pt1, by omega, by omega, fun i μ2 f2 pt2 i0 i1 => ?_⟩⟩⟩
      have two : ∀ g : Nat → Nat → Gt, (∀ i j, (g i j).ok n = (i < n ∧ j < n ∧ i ≠ j)) → (∀ i j, (g i j).mild = true) → (∃ s : Str, d = .s s ∧ s ≠ "add" ∧ ∀ i j : Nat, (g i j).da = .tup [.s s, .i i, .i j]) → ∃ u, d = .v u ∧ scal u (.str "add") = true ∧ if u = .str "add" then CPow 10 20 ∧ 7 ≤ sizeLine ∧ NewL [.i 0, .i 1, .i (-1), .i 3, .i (-9), .i 12, .i (10 ^ Int.toNat 20)] μ2 fun x μ1 => ∃ xs, x = .lst xs ∧ Pt a μ1 ∧ 1 ≤ xs.length ∧ xs.length ≤ 1000 ∧ ∀ (e : Da) μ', Fr a μ1 μ' → Pt a μ' → e ∈ xs → 3 ≤ sizeLine ∧ Q (.tup [.s "add", .i i, e]) μ'
          else Pt a μ2 ∧ (1 : Int) ≤ n - 1 ∧ (n : Int) - 1 < 1073741824 ∧ ∀ (j : Int) μ', Fr a μ2 μ' → Pt a μ' → 0 ≤ j → j < (n : Int) - 1 → (0 : Int) < n ∧ 3 ≤ sizeLine ∧ Q (.tup [d, .i i, .i ((i + 1 + j) % n)]) μ' := fun g ho hm ⟨s, e, ns, hg⟩ => by
        subst e
        refine ⟨_, rfl, by rw [scal_ss]; trivial, ?_⟩
        rw [if_neg (fun z => ns (V.str.inj z))]
        refine ⟨pt2, by omega, by omega, fun j μ' f pt' j0 j1 => ⟨by omega, by omega, ?_⟩⟩
        obtain ⟨m0, m1, mne⟩ := mod_ne i0 i1 j0 j1
        have z := k (g i.toNat ((i + 1 + j) % n).toNat) μ' (f1.trans (f2.trans f)) pt' (by rw [ho]; omega) (hm _ _)
        rw [hg, Int.toNat_of_nonneg i0, Int.toNat_of_nonneg m0] at z
        exact z
      simp only [List.mem_cons, List.not_mem_nil, or_false] at hd
      rcases hd with rfl | rfl | rfl | rfl | rfl
      · exact two .low (fun _ _ => rfl) (fun _ _ => rfl) ⟨_, rfl, by decide, fun _ _ => rfl⟩
      · exact two .high (fun _ _ => rfl) (fun _ _ => rfl) ⟨_, rfl, by decide, fun _ _ => rfl⟩
      · exact two .sort (fun _ _ => rfl) (fun _ _ => rfl) ⟨_, rfl, by decide, fun _ _ => rfl⟩
      · exact two .copy (fun _ _ => rfl) (fun _ _ => rfl) ⟨_, rfl, by decide, fun _ _ => rfl⟩
      · refine ⟨_, rfl, by rw [scal_ss]; trivial, ?_⟩
        rw [if_pos rfl]
        exact ⟨⟨by decide, by decide, by decide⟩, sz, .inl (adds i μ2 (f1.trans f2) pt2 i0 i1)⟩
    · rw [if_neg c]
      exact ⟨pt, by omega, by omega, fun i μ2 f2 pt2 i0 i1 => ⟨⟨by decide, by decide, by decide⟩, sz, .inl (adds i μ2 f2 pt2 i0 i1)⟩⟩
end
end LL

set_option synthInstance.maxSize 100000
set_option synthInstance.maxHeartbeats 4000000
namespace LL
open PySem L2 PySem.Spec PyProof.Rows
theorem list_of {α : Type} {f : α → Da} {p : α → Prop} : ∀ {out : List Da}, (∀ (i : Nat) y, out[i]? = some y → ∃ g, y = f g ∧ p g) → ∃ gs : List α, out = gs.map f ∧ ∀ g ∈ gs, p g
  | [], _ => ⟨[], rfl, fun _ h => by cases h⟩
  | y :: r, h => by
    obtain ⟨g, e, q⟩ := h 0 y rfl
    obtain ⟨gs, e2, q2⟩ := list_of (out := r) (fun i z hz => h (i + 1) z hz)
    exact ⟨g :: gs, by rw [e, e2]; rfl, fun x hx => (List.mem_cons.mp hx).elim (fun z => by rw [z]; exact q) (q2 x)⟩
section
variable {P : Program} {w : World} {K : PySem.W.Frag} {mg : Str → Option Value} {base : Heap} {C : Addr}
def dsp_law_gates : DSp := fun ds μ Q => ∃ (a : Addr) (n m : Nat), ds = [.r a, .i n, .i m] ∧ Pt a μ ∧ 1 ≤ n ∧ n ≤ 12 ∧ m ≤ 100 ∧ ∀ (gs : List Gt) μ', Fr a μ μ' → Pt a μ' → (∀ g ∈ gs, g.ok n ∧ g.mild = true) → gs.length ≤ m → NewL (gs.map Gt.da) μ' Q
theorem c_law_gates (T : Txt K mg C) : C8.Cal P w K mg base 4 "_law_gates" (spD K dsp_law_gates) [] := by
  obtain ⟨f, fd, D, b⟩ := T.d_law_gates
  refine ⟨f, fd, _, [], fnD (dsp := dsp_law_gates) D.fn sc_law_gates (fun ds μ Q h => ?_) (fun cdv A outer s H E hr _ => ?_), D.mgf, D.kp, b, .nil⟩
  · obtain ⟨a, n, m, rfl, _⟩ := h
    rfl
  · refine ⟨_, (pss_one (ps_ret (pe_lc (own := [("_law_turn", 3)]) (g := (gName 3)) (tt := tYes) rfl sc_law_gates.nd (pi_range1 rfl T.b_range (pa_cons (C8.pe_c (c_law_draw T) hr (by decide) rfl (pa_cons (pv 0) (pa_cons (pe_op op_add (pv 2) pe_int) pa_nil))) pa_nil)) (blkOk_by (N := N_law_gates) (sc := C8.fnScope s_law_gates) (by decide +kernel)) (fun _ _ _ _ _ => (pg_name (i := 3) sc_law_gates.nd rfl (Or.inl rfl))) (fun _ _ _ _ _ => pts_nil) (fun _ _ _ _ _ => (C8.pe_c (c_law_gate T) hr (by decide) rfl (pa_cons (pv 0) (pa_cons (pv 1) pa_nil))))))), ?_⟩
    dsimp only [cxOf, Cx.nox]
    refine ⟨_, inferInstance, fun ds μ Q h => ?_⟩
    obtain ⟨a, n, m, rfl, pt, h1, h2, h3, k⟩ := h
    simp only [dVar, dC, dOp, dUn, dI0, dU, dEq, dNe, dIsN, dIxL, dIxT, dIn, dCat, dRep, dTest, dAnd, dOr, dNot, dYes, dAndV, dOrV, dNotV, dIf, dChain, dNil, dCons, dTup, dLst, dCall, dCallD, dFld, dCon, dCVal, dMeth, dProp, dMake, dMakeD, dCallO, dCB, dLen, dListOf, dTupleOf, d2I, d1I, dInt1, dDivmod, dInts, dBools, dIsi, dBM, dAppend, dNoPart, dPart, dSl, dOwn2, dOwnI, dOwnN, dEqD, dName, dgNil, dgCons, dgTup, dSub, dSetL, dNext, dSeq, dBreak, dCont, dDrop, dRet, dRetN, dIfS, dAsg, dPar, dSetF, dI, endD, startR, Option.some.injEq, Da.v.injEq, Da.tup.injEq, Da.lst.injEq, V.int.injEq, V.bl.injEq, V.str.injEq, V.ref.injEq, exists_eq_left', exists_eq_left, exists_and_left, List.cons.injEq, and_true, true_and, and_assoc, exists_eq, List.map_cons, List.map_nil, List.length_cons, List.length_nil, List.cons_append, List.nil_append, List.append_nil, List.replicate_succ, List.replicate_zero, List.getElem?_cons_succ, List.getElem?_cons_zero, List.set_cons_succ, List.set_cons_zero, List.length_map, if_true, Bool.false_eq_true, if_false, reduceIte, Nat.reduceAdd, Nat.reduceSub, Nat.zero_add, exists_const, exists_false, List.length_replicate, fzv_b, fzv_i, fzv_s, fzv_n, fzv_t, fzv_l, fzv_o, dIsiTE, dMakeL, dCMeth, dReprD, dReprL, dTruth, scal_ii, scal_ss, scal_bb, Cell.ml.injEq, Cell.mi.injEq, reduceCtorEq, Bool.true_eq_false, not_true_eq_false, not_false_eq_true, Int.natCast_nonneg, Int.ofNat_lt, Int.ofNat_le, Int.natCast_inj, isi_ii, isi_ib, isi_ss, isi_tt, sq_t, sq_l, lst_l, lstT_l, ins_o, ins_oC, fld_cons, ofStr_eq, String.reduceEq, Bool.not_true, Bool.not_false, Bool.not_eq_true', decide_eq_false_iff_not, decide_eq_true_eq, dNever, N_law_gates]
    refine ⟨by decide, ?_⟩
    simp only [dVar, dC, dOp, dUn, dI0, dU, dEq, dNe, dIsN, dIxL, dIxT, dIn, dCat, dRep, dTest, dAnd, dOr, dNot, dYes, dAndV, dOrV, dNotV, dIf, dChain, dNil, dCons, dTup, dLst, dCall, dCallD, dFld, dCon, dCVal, dMeth, dProp, dMake, dMakeD, dCallO, dCB, dLen, dListOf, dTupleOf, d2I, d1I, dInt1, dDivmod, dInts, dBools, dIsi, dBM, dAppend, dNoPart, dPart, dSl, dOwn2, dOwnI, dOwnN, dEqD, dName, dgNil, dgCons, dgTup, dSub, dSetL, dNext, dSeq, dBreak, dCont, dDrop, dRet, dRetN, dIfS, dAsg, dPar, dSetF, dI, endD, startR, Option.some.injEq, Da.v.injEq, Da.tup.injEq, Da.lst.injEq, V.int.injEq, V.bl.injEq, V.str.injEq, V.ref.injEq, exists_eq_left', exists_eq_left, exists_and_left, List.cons.injEq, and_true, true_and, and_assoc, exists_eq, List.map_cons, List.map_nil, List.length_cons, List.length_nil, List.cons_append, List.nil_append, List.append_nil, List.replicate_succ, List.replicate_zero, List.getElem?_cons_succ, List.getElem?_cons_zero, List.set_cons_succ, List.set_cons_zero, List.length_map, if_true, Bool.false_eq_true, if_false, reduceIte, Nat.reduceAdd, Nat.reduceSub, Nat.zero_add, exists_const, exists_false, List.length_replicate, fzv_b, fzv_i, fzv_s, fzv_n, fzv_t, fzv_l, fzv_o, dIsiTE, dMakeL, dCMeth, dReprD, dReprL, dTruth, scal_ii, scal_ss, scal_bb, Cell.ml.injEq, Cell.mi.injEq, reduceCtorEq, Bool.true_eq_false, not_true_eq_false, not_false_eq_true, Int.natCast_nonneg, Int.ofNat_lt, Int.ofNat_le, Int.natCast_inj, isi_ii, isi_ib, isi_ss, isi_tt, sq_t, sq_l, lst_l, lstT_l, ins_o, ins_oC, fld_cons, ofStr_eq, String.reduceEq, Bool.not_true, Bool.not_false, Bool.not_eq_true', decide_eq_false_iff_not, decide_eq_true_eq, dNever, dIRng1, dsp_law_draw]
    refine ⟨pt, by omega, by omega, fun d μ1 f1 pt1 d0 d1 => ⟨by omega, by omega, ?_⟩⟩
    refine lcP (fun _ y => ∃ g : Gt, y = g.da ∧ g.ok n ∧ g.mild = true) (by rw [rgD_length]; omega) (fun _ _ => trivial) pt1 (fun i x μ' R hx _ pt' r => ?_) (fun out μ' hl ho f pt' => ?_)
    · simp only [dVar, dC, dOp, dUn, dI0, dU, dEq, dNe, dIsN, dIxL, dIxT, dIn, dCat, dRep, dTest, dAnd, dOr, dNot, dYes, dAndV, dOrV, dNotV, dIf, dChain, dNil, dCons, dTup, dLst, dCall, dCallD, dFld, dCon, dCVal, dMeth, dProp, dMake, dMakeD, dCallO, dCB, dLen, dListOf, dTupleOf, d2I, d1I, dInt1, dDivmod, dInts, dBools, dIsi, dBM, dAppend, dNoPart, dPart, dSl, dOwn2, dOwnI, dOwnN, dEqD, dName, dgNil, dgCons, dgTup, dSub, dSetL, dNext, dSeq, dBreak, dCont, dDrop, dRet, dRetN, dIfS, dAsg, dPar, dSetF, dI, endD, startR, Option.some.injEq, Da.v.injEq, Da.tup.injEq, Da.lst.injEq, V.int.injEq, V.bl.injEq, V.str.injEq, V.ref.injEq, exists_eq_left', exists_eq_left, exists_and_left, List.cons.injEq, and_true, true_and, and_assoc, exists_eq, List.map_cons, List.map_nil, List.length_cons, List.length_nil, List.cons_append, List.nil_append, List.append_nil, List.replicate_succ, List.replicate_zero, List.getElem?_cons_succ, List.getElem?_cons_zero, List.set_cons_succ, List.set_cons_zero, List.length_map, if_true, Bool.false_eq_true, if_false, reduceIte, Nat.reduceAdd, Nat.reduceSub, Nat.zero_add, exists_const, exists_false, List.length_replicate, fzv_b, fzv_i, fzv_s, fzv_n, fzv_t, fzv_l, fzv_o, dIsiTE, dMakeL, dCMeth, dReprD, dReprL, dTruth, scal_ii, scal_ss, scal_bb, Cell.ml.injEq, Cell.mi.injEq, reduceCtorEq, Bool.true_eq_false, not_true_eq_false, not_false_eq_true, Int.natCast_nonneg, Int.ofNat_lt, Int.ofNat_le, Int.natCast_inj, isi_ii, isi_ib, isi_ss, isi_tt, sq_t, sq_l, lst_l, lstT_l, ins_o, ins_oC, fld_cons, ofStr_eq, String.reduceEq, Bool.not_true, Bool.not_false, Bool.not_eq_true', decide_eq_false_iff_not, decide_eq_true_eq, dNever, lcStep, wipeR, dsp_law_gate]
      exact ⟨pt', h1, h2, fun g μ2 f2 pt2 ok mild => r _ _ f2 pt2 ⟨g, rfl, ok, mild⟩⟩
    · obtain ⟨gs, rfl, h⟩ := list_of ho
      rw [rgD_length, List.length_map] at hl
      exact (k gs μ' (f1.trans f) pt' h (by omega)).imp (fun h => .inl h) fun h p hp => .inl (h p hp)
def dsp_law_content : DSp := fun ds μ Q => ∃ (a : Addr) (n : Nat), ds = [.r a, .i n] ∧ Pt a μ ∧ 1 ≤ n ∧ n ≤ 12 ∧ ∀ (ns : List Int) μ', Fr a μ μ' → Pt a μ' → ns.length = n → (∀ i ∈ ns, i.natAbs ≤ 10 ^ 30) → NewL (ns.map Da.i) μ' Q
theorem c_law_content (T : Txt K mg C) : C8.Cal P w K mg base 4 "_law_content" (spD K dsp_law_content) [] := by
  obtain ⟨f, fd, D, b⟩ := T.d_law_content
  refine ⟨f, fd, _, [], fnD (dsp := dsp_law_content) D.fn sc_law_content (fun ds μ Q h => ?_) (fun cdv A outer s H E hr _ => ?_), D.mgf, D.kp, b, .nil⟩
  · obtain ⟨a, n, rfl, _⟩ := h
    rfl
  · refine ⟨_, (pss_cons (ps_set (i := 2) sc_law_content.nd rfl (Or.inr rfl) (C8.pe_c (c_law_pick T) hr (by decide) rfl (pa_cons (pv 0) (pa_cons (pe_lst (pa_cons pe_int (pa_cons pe_int (pa_cons pe_int (pa_cons pe_int (pa_cons (pe_op op_pow pe_int pe_int) pa_nil)))))) pa_nil))))
      (pss_cons (ps_if (pt_cmpR op_gt (pv 2) pe_int (nomark _))
       (pss_one (ps_ret (pe_lc (own := [("_law_lane", 3)]) (g := (gName 3)) (tt := tYes) rfl sc_law_content.nd (pi_range1 rfl T.b_range (pa_cons (pv 1) pa_nil)) (blkOk_by (N := N_law_content) (sc := C8.fnScope s_law_content) (by decide +kernel)) (fun _ _ _ _ _ => (pg_name (i := 3) sc_law_content.nd rfl (Or.inl rfl))) (fun _ _ _ _ _ => pts_nil) (fun _ _ _ _ _ => (pe_op op_sub (pe_op op_add (pe_op op_mul (pe_op op_sub (C8.pe_c (c_law_draw T) hr (by decide) rfl (pa_cons (pv 0) (pa_cons pe_int pa_nil))) pe_int) (pv 2)) (C8.pe_c (c_law_draw T) hr (by decide) rfl (pa_cons (pv 0) (pa_cons pe_int pa_nil)))) pe_int)))))
       pss_nil)
      (pss_one (ps_ret (pe_lc (own := [("_law_lane", 3)]) (g := (gName 3)) (tt := tYes) rfl sc_law_content.nd (pi_range1 rfl T.b_range (pa_cons (pv 1) pa_nil)) (blkOk_by (N := N_law_content) (sc := C8.fnScope s_law_content) (by decide +kernel)) (fun _ _ _ _ _ => (pg_name (i := 3) sc_law_content.nd rfl (Or.inl rfl))) (fun _ _ _ _ _ => pts_nil) (fun _ _ _ _ _ => (pe_op op_sub (C8.pe_c (c_law_draw T) hr (by decide) rfl (pa_cons (pv 0) (pa_cons (pe_op op_mul pe_int (pv 2)) pa_nil))) (pv 2)))))))), ?_⟩
    dsimp only [cxOf, Cx.nox]
    refine ⟨_, inferInstance, fun ds μ Q h => ?_⟩
    obtain ⟨a, n, rfl, pt, h1, h2, k⟩ := h
    simp only [dVar, dC, dOp, dUn, dI0, dU, dEq, dNe, dIsN, dIxL, dIxT, dIn, dCat, dRep, dTest, dAnd, dOr, dNot, dYes, dAndV, dOrV, dNotV, dIf, dChain, dNil, dCons, dTup, dLst, dCall, dCallD, dFld, dCon, dCVal, dMeth, dProp, dMake, dMakeD, dCallO, dCB, dLen, dListOf, dTupleOf, d2I, d1I, dInt1, dDivmod, dInts, dBools, dIsi, dBM, dAppend, dNoPart, dPart, dSl, dOwn2, dOwnI, dOwnN, dEqD, dName, dgNil, dgCons, dgTup, dSub, dSetL, dNext, dSeq, dBreak, dCont, dDrop, dRet, dRetN, dIfS, dAsg, dPar, dSetF, dI, endD, startR, Option.some.injEq, Da.v.injEq, Da.tup.injEq, Da.lst.injEq, V.int.injEq, V.bl.injEq, V.str.injEq, V.ref.injEq, exists_eq_left', exists_eq_left, exists_and_left, List.cons.injEq, and_true, true_and, and_assoc, exists_eq, List.map_cons, List.map_nil, List.length_cons, List.length_nil, List.cons_append, List.nil_append, List.append_nil, List.replicate_succ, List.replicate_zero, List.getElem?_cons_succ, List.getElem?_cons_zero, List.set_cons_succ, List.set_cons_zero, List.length_map, if_true, Bool.false_eq_true, if_false, reduceIte, Nat.reduceAdd, Nat.reduceSub, Nat.zero_add, exists_const, exists_false, List.length_replicate, fzv_b, fzv_i, fzv_s, fzv_n, fzv_t, fzv_l, fzv_o, dIsiTE, dMakeL, dCMeth, dReprD, dReprL, dTruth, scal_ii, scal_ss, scal_bb, Cell.ml.injEq, Cell.mi.injEq, reduceCtorEq, Bool.true_eq_false, not_true_eq_false, not_false_eq_true, Int.natCast_nonneg, Int.ofNat_lt, Int.ofNat_le, Int.natCast_inj, isi_ii, isi_ib, isi_ss, isi_tt, sq_t, sq_l, lst_l, lstT_l, ins_o, ins_oC, fld_cons, ofStr_eq, String.reduceEq, Bool.not_true, Bool.not_false, Bool.not_eq_true', decide_eq_false_iff_not, decide_eq_true_eq, dNever, N_law_content, dsp_law_draw, dsp_law_pick]
    refine ⟨⟨by decide, by decide, by decide⟩, by decide, .inl ⟨_, rfl, pt, by show 1 ≤ 5; decide, by show 5 ≤ 1000; decide, fun d μ1 f1 pt1 hd => ?_⟩⟩
    have fin : ∀ out μ', out.length = (rgD 0 n).length → (∀ (i : Nat) y, out[i]? = some y → ∃ z : Int, y = .i z ∧ z.natAbs ≤ 10 ^ 30) → Fr a μ1 μ' → Pt a μ' → NewL out μ' (fun d μ1 => FzV Q d μ1) := fun out μ' hl ho f pt' => by
      obtain ⟨ns, rfl, h⟩ := list_of ho
      rw [rgD_length, List.length_map] at hl
      exact (k ns μ' (f1.trans f) pt' hl h).imp (fun h => .inl h) fun h p hp => .inl (h p hp)
    have big : d = .i (10 ^ 29) ∨ ∃ w : Int, d = .i w ∧ 2 ≤ w ∧ w ≤ 30 := by
      simp only [List.mem_cons, List.not_mem_nil, or_false] at hd
      rcases hd with rfl | rfl | rfl | rfl | rfl
      · exact .inr ⟨2, rfl, by decide, by decide⟩
      · exact .inr ⟨3, rfl, by decide, by decide⟩
      · exact .inr ⟨9, rfl, by decide, by decide⟩
      · exact .inr ⟨30, rfl, by decide, by decide⟩
      · exact .inl (congrArg (fun k : Nat => Da.i ((10 : Int) ^ k)) (by decide : Int.toNat 29 = 29))
    rcases big with rfl | ⟨w, rfl, w0, w1⟩
    · refine ⟨_, rfl, ?_⟩
      rw [if_pos (by decide)]
      refine ⟨by decide, ?_⟩
      simp only [dVar, dC, dOp, dUn, dI0, dU, dEq, dNe, dIsN, dIxL, dIxT, dIn, dCat, dRep, dTest, dAnd, dOr, dNot, dYes, dAndV, dOrV, dNotV, dIf, dChain, dNil, dCons, dTup, dLst, dCall, dCallD, dFld, dCon, dCVal, dMeth, dProp, dMake, dMakeD, dCallO, dCB, dLen, dListOf, dTupleOf, d2I, d1I, dInt1, dDivmod, dInts, dBools, dIsi, dBM, dAppend, dNoPart, dPart, dSl, dOwn2, dOwnI, dOwnN, dEqD, dName, dgNil, dgCons, dgTup, dSub, dSetL, dNext, dSeq, dBreak, dCont, dDrop, dRet, dRetN, dIfS, dAsg, dPar, dSetF, dI, endD, startR, Option.some.injEq, Da.v.injEq, Da.tup.injEq, Da.lst.injEq, V.int.injEq, V.bl.injEq, V.str.injEq, V.ref.injEq, exists_eq_left', exists_eq_left, exists_and_left, List.cons.injEq, and_true, true_and, and_assoc, exists_eq, List.map_cons, List.map_nil, List.length_cons, List.length_nil, List.cons_append, List.nil_append, List.append_nil, List.replicate_succ, List.replicate_zero, List.getElem?_cons_succ, List.getElem?_cons_zero, List.set_cons_succ, List.set_cons_zero, List.length_map, if_true, Bool.false_eq_true, if_false, reduceIte, Nat.reduceAdd, Nat.reduceSub, Nat.zero_add, exists_const, exists_false, List.length_replicate, fzv_b, fzv_i, fzv_s, fzv_n, fzv_t, fzv_l, fzv_o, dIsiTE, dMakeL, dCMeth, dReprD, dReprL, dTruth, scal_ii, scal_ss, scal_bb, Cell.ml.injEq, Cell.mi.injEq, reduceCtorEq, Bool.true_eq_false, not_true_eq_false, not_false_eq_true, Int.natCast_nonneg, Int.ofNat_lt, Int.ofNat_le, Int.natCast_inj, isi_ii, isi_ib, isi_ss, isi_tt, sq_t, sq_l, lst_l, lstT_l, ins_o, ins_oC, fld_cons, ofStr_eq, String.reduceEq, Bool.not_true, Bool.not_false, Bool.not_eq_true', decide_eq_false_iff_not, decide_eq_true_eq, dNever, dIRng1]
      refine ⟨by omega, by omega, ?_⟩
      refine lcP (fun _ y => ∃ z : Int, y = .i z ∧ z.natAbs ≤ 10 ^ 30) (by rw [rgD_length]; omega) (fun _ _ => trivial) pt1 (fun i x μ' R hx _ pt' r => ?_) fin
      simp only [dVar, dC, dOp, dUn, dI0, dU, dEq, dNe, dIsN, dIxL, dIxT, dIn, dCat, dRep, dTest, dAnd, dOr, dNot, dYes, dAndV, dOrV, dNotV, dIf, dChain, dNil, dCons, dTup, dLst, dCall, dCallD, dFld, dCon, dCVal, dMeth, dProp, dMake, dMakeD, dCallO, dCB, dLen, dListOf, dTupleOf, d2I, d1I, dInt1, dDivmod, dInts, dBools, dIsi, dBM, dAppend, dNoPart, dPart, dSl, dOwn2, dOwnI, dOwnN, dEqD, dName, dgNil, dgCons, dgTup, dSub, dSetL, dNext, dSeq, dBreak, dCont, dDrop, dRet, dRetN, dIfS, dAsg, dPar, dSetF, dI, endD, startR, Option.some.injEq, Da.v.injEq, Da.tup.injEq, Da.lst.injEq, V.int.injEq, V.bl.injEq, V.str.injEq, V.ref.injEq, exists_eq_left', exists_eq_left, exists_and_left, List.cons.injEq, and_true, true_and, and_assoc, exists_eq, List.map_cons, List.map_nil, List.length_cons, List.length_nil, List.cons_append, List.nil_append, List.append_nil, List.replicate_succ, List.replicate_zero, List.getElem?_cons_succ, List.getElem?_cons_zero, List.set_cons_succ, List.set_cons_zero, List.length_map, if_true, Bool.false_eq_true, if_false, reduceIte, Nat.reduceAdd, Nat.reduceSub, Nat.zero_add, exists_const, exists_false, List.length_replicate, fzv_b, fzv_i, fzv_s, fzv_n, fzv_t, fzv_l, fzv_o, dIsiTE, dMakeL, dCMeth, dReprD, dReprL, dTruth, scal_ii, scal_ss, scal_bb, Cell.ml.injEq, Cell.mi.injEq, reduceCtorEq, Bool.true_eq_false, not_true_eq_false, not_false_eq_true, Int.natCast_nonneg, Int.ofNat_lt, Int.ofNat_le, Int.natCast_inj, isi_ii, isi_ib, isi_ss, isi_tt, sq_t, sq_l, lst_l, lstT_l, ins_o, ins_oC, fld_cons, ofStr_eq, String.reduceEq, Bool.not_true, Bool.not_false, Bool.not_eq_true', decide_eq_false_iff_not, decide_eq_true_eq, dNever, lcStep, wipeR, dsp_law_draw]
      refine ⟨pt', by decide, by decide, fun e μ2 f2 pt2 e0 e1 => ⟨.inl ⟨by omega, by omega⟩, pt2, by decide, by decide, fun d μ3 f3 pt3 d0 d1 => r _ _ (f2.trans f3) pt3 ⟨_, rfl, by omega⟩⟩⟩
    · refine ⟨_, rfl, ?_⟩
      rw [if_neg (by omega)]
      refine ⟨by decide, ?_⟩
      simp only [dVar, dC, dOp, dUn, dI0, dU, dEq, dNe, dIsN, dIxL, dIxT, dIn, dCat, dRep, dTest, dAnd, dOr, dNot, dYes, dAndV, dOrV, dNotV, dIf, dChain, dNil, dCons, dTup, dLst, dCall, dCallD, dFld, dCon, dCVal, dMeth, dProp, dMake, dMakeD, dCallO, dCB, dLen, dListOf, dTupleOf, d2I, d1I, dInt1, dDivmod, dInts, dBools, dIsi, dBM, dAppend, dNoPart, dPart, dSl, dOwn2, dOwnI, dOwnN, dEqD, dName, dgNil, dgCons, dgTup, dSub, dSetL, dNext, dSeq, dBreak, dCont, dDrop, dRet, dRetN, dIfS, dAsg, dPar, dSetF, dI, endD, startR, Option.some.injEq, Da.v.injEq, Da.tup.injEq, Da.lst.injEq, V.int.injEq, V.bl.injEq, V.str.injEq, V.ref.injEq, exists_eq_left', exists_eq_left, exists_and_left, List.cons.injEq, and_true, true_and, and_assoc, exists_eq, List.map_cons, List.map_nil, List.length_cons, List.length_nil, List.cons_append, List.nil_append, List.append_nil, List.replicate_succ, List.replicate_zero, List.getElem?_cons_succ, List.getElem?_cons_zero, List.set_cons_succ, List.set_cons_zero, List.length_map, if_true, Bool.false_eq_true, if_false, reduceIte, Nat.reduceAdd, Nat.reduceSub, Nat.zero_add, exists_const, exists_false, List.length_replicate, fzv_b, fzv_i, fzv_s, fzv_n, fzv_t, fzv_l, fzv_o, dIsiTE, dMakeL, dCMeth, dReprD, dReprL, dTruth, scal_ii, scal_ss, scal_bb, Cell.ml.injEq, Cell.mi.injEq, reduceCtorEq, Bool.true_eq_false, not_true_eq_false, not_false_eq_true, Int.natCast_nonneg, Int.ofNat_lt, Int.ofNat_le, Int.natCast_inj, isi_ii, isi_ib, isi_ss, isi_tt, sq_t, sq_l, lst_l, lstT_l, ins_o, ins_oC, fld_cons, ofStr_eq, String.reduceEq, Bool.not_true, Bool.not_false, Bool.not_eq_true', decide_eq_false_iff_not, decide_eq_true_eq, dNever, dIRng1]
      refine ⟨by omega, by omega, ?_⟩
      refine lcP (fun _ y => ∃ z : Int, y = .i z ∧ z.natAbs ≤ 10 ^ 30) (by rw [rgD_length]; omega) (fun _ _ => trivial) pt1 (fun i x μ' R hx _ pt' r => ?_) fin
      simp only [dVar, dC, dOp, dUn, dI0, dU, dEq, dNe, dIsN, dIxL, dIxT, dIn, dCat, dRep, dTest, dAnd, dOr, dNot, dYes, dAndV, dOrV, dNotV, dIf, dChain, dNil, dCons, dTup, dLst, dCall, dCallD, dFld, dCon, dCVal, dMeth, dProp, dMake, dMakeD, dCallO, dCB, dLen, dListOf, dTupleOf, d2I, d1I, dInt1, dDivmod, dInts, dBools, dIsi, dBM, dAppend, dNoPart, dPart, dSl, dOwn2, dOwnI, dOwnN, dEqD, dName, dgNil, dgCons, dgTup, dSub, dSetL, dNext, dSeq, dBreak, dCont, dDrop, dRet, dRetN, dIfS, dAsg, dPar, dSetF, dI, endD, startR, Option.some.injEq, Da.v.injEq, Da.tup.injEq, Da.lst.injEq, V.int.injEq, V.bl.injEq, V.str.injEq, V.ref.injEq, exists_eq_left', exists_eq_left, exists_and_left, List.cons.injEq, and_true, true_and, and_assoc, exists_eq, List.map_cons, List.map_nil, List.length_cons, List.length_nil, List.cons_append, List.nil_append, List.append_nil, List.replicate_succ, List.replicate_zero, List.getElem?_cons_succ, List.getElem?_cons_zero, List.set_cons_succ, List.set_cons_zero, List.length_map, if_true, Bool.false_eq_true, if_false, reduceIte, Nat.reduceAdd, Nat.reduceSub, Nat.zero_add, exists_const, exists_false, List.length_replicate, fzv_b, fzv_i, fzv_s, fzv_n, fzv_t, fzv_l, fzv_o, dIsiTE, dMakeL, dCMeth, dReprD, dReprL, dTruth, scal_ii, scal_ss, scal_bb, Cell.ml.injEq, Cell.mi.injEq, reduceCtorEq, Bool.true_eq_false, not_true_eq_false, not_false_eq_true, Int.natCast_nonneg, Int.ofNat_lt, Int.ofNat_le, Int.natCast_inj, isi_ii, isi_ib, isi_ss, isi_tt, sq_t, sq_l, lst_l, lstT_l, ins_o, ins_oC, fld_cons, ofStr_eq, String.reduceEq, Bool.not_true, Bool.not_false, Bool.not_eq_true', decide_eq_false_iff_not, decide_eq_true_eq, dNever, lcStep, wipeR, dsp_law_draw]
      exact ⟨.inl ⟨by omega, by omega⟩, pt', by omega, by omega, fun d μ3 f3 pt3 d0 d1 => r _ _ f3 pt3 ⟨_, rfl, by omega⟩⟩
end
end LL

namespace LL
open PySem L2 PySem.Spec PyProof.Rows
/-! ### orders -/
theorem srt_eq : ∀ {xs ys : List Int}, xs.Pairwise (· ≤ ·) → ys.Pairwise (· ≤ ·) → xs.Perm ys → xs = ys
  | [], ys, _, _, h => (List.nil_perm.mp h).symm
  | x :: xs, [], _, _, h => by
    have := h.length_eq
    simp at this
  | x :: xs, y :: ys, hx, hy, h => by
    have hx' := List.pairwise_cons.mp hx
    have hy' := List.pairwise_cons.mp hy
    have e : x = y := by
      have a : x ∈ y :: ys := h.mem_iff.mp List.mem_cons_self
      have b : y ∈ x :: xs := h.mem_iff.mpr List.mem_cons_self
      rcases List.mem_cons.mp a with q | q
      · exact q
      · rcases List.mem_cons.mp b with r | r
        · exact r.symm
        · exact Int.le_antisymm (hx'.1 _ r) (hy'.1 _ q)
    subst e
    rw [srt_eq hx'.2 hy'.2 (List.perm_cons x |>.mp h)]
abbrev intsN (os : List Nat) : List Int := os.map fun i : Nat => (i : Int)
def IsOrd (os : List Nat) (n : Nat) : Prop := os.Perm (List.range n)
theorem IsOrd.len {os : List Nat} {n : Nat} (h : IsOrd os n) : os.length = n := by rw [h.length_eq, List.length_range]
theorem IsOrd.lt {os : List Nat} {n : Nat} (h : IsOrd os n) {i : Nat} (hi : i ∈ os) : i < n := List.mem_range.mp (h.mem_iff.mp hi)
theorem range_srt : ∀ n, (intsN (List.range n)).Pairwise (· ≤ ·)
  | 0 => .nil
  | n + 1 => by
    unfold intsN
    rw [List.range_succ, List.map_append]
    refine List.pairwise_append.mpr ⟨range_srt n, List.pairwise_singleton _ _, fun a ha b hb => ?_⟩
    obtain ⟨i, hi, e⟩ := List.mem_map.mp ha
    have := List.mem_range.mp hi
    simp at hb
    omega
def putAll (os : List Nat) (ns fs : List Int) : List Int := (os.zip ns).foldl (fun f p => f.set p.1 p.2) fs
/-- a content moved by an order -/
def movedL (os : List Nat) (ns : List Int) : List Int := putAll os ns ns
def putTo (os : List Nat) (ns : List Int) (i : Nat) : List Int := ((os.zip ns).take i).foldl (fun f p => f.set p.1 p.2) ns
theorem put_len (l : List (Nat × Int)) : ∀ fs : List Int, (l.foldl (fun f p => f.set p.1 p.2) fs).length = fs.length := by
  induction l with
  | nil => intro fs; rfl
  | cons p l ih =>
    intro fs
    show (l.foldl _ (fs.set p.1 p.2)).length = _
    rw [ih, List.length_set]
theorem put_next {os : List Nat} {ns : List Int} {i o : Nat} {x : Int} (h1 : os[i]? = some o) (h2 : ns[i]? = some x) : putTo os ns (i + 1) = (putTo os ns i).set o x := by
  unfold putTo
  have : (os.zip ns)[i]? = some (o, x) := by rw [List.getElem?_zip_eq_some]; exact ⟨h1, h2⟩
  rw [List.take_add_one, this, List.foldl_append]
  rfl
theorem put_end {os : List Nat} {ns : List Int} (h : os.length = ns.length) : putTo os ns ns.length = movedL os ns := by
  unfold putTo movedL putAll
  rw [List.take_of_length_le (by rw [List.length_zip]; omega)]
def turnedL (ns : List Int) : List Int := ns.map fun x => -x
def raisedL (ns : List Int) (z : Int) : List Int := ns.map fun x => x + z
def ord (os : List Nat) (i : Nat) : Nat := os.getD i 0
def Gt.tn : Gt → Gt
  | .low i j => .high i j
  | .high i j => .low i j
  | .sort i j => .sort j i
  | .copy i j => .copy i j
  | .add i c => .add i (-c)
def Gt.mv (os : List Nat) : Gt → Gt
  | .low i j => .low (ord os i) (ord os j)
  | .high i j => .high (ord os i) (ord os j)
  | .sort i j => .sort (ord os i) (ord os j)
  | .copy i j => .copy (ord os i) (ord os j)
  | .add i c => .add (ord os i) c
theorem tn_ok {g : Gt} {n : Nat} (h : g.ok n) : g.tn.ok n := by
  cases g with
  | add i c => exact h
  | sort i j => exact ⟨h.2.1, h.1, h.2.2.symm⟩
  | low i j => exact h
  | high i j => exact h
  | copy i j => exact h
theorem ord_at {os : List Nat} {i : Nat} (h : i < os.length) : ((intsN os).map V.int)[i]? = some (.int (ord os i : Nat)) := by
  unfold ord
  rw [List.getElem?_map, List.getElem?_map, List.getElem?_eq_getElem h, List.getD_eq_getElem?_getD, List.getElem?_eq_getElem h]
  rfl
theorem ord_mem {os : List Nat} {i : Nat} (h : i < os.length) : ord os i ∈ os := by
  unfold ord
  rw [List.getD_eq_getElem?_getD, List.getElem?_eq_getElem h]
  exact List.getElem_mem h
theorem ord_inj {os : List Nat} {n : Nat} (ho : IsOrd os n) {i j : Nat} (hi : i < n) (hj : j < n) (e : ord os i = ord os j) : i = j := by
  have nd : os.Nodup := ho.nodup_iff.mpr List.nodup_range
  have hl := ho.len
  unfold ord at e
  rw [List.getD_eq_getElem?_getD, List.getD_eq_getElem?_getD, List.getElem?_eq_getElem (show i < os.length by omega), List.getElem?_eq_getElem (show j < os.length by omega)] at e
  have e : os[i]'(by omega) = os[j]'(by omega) := e
  have nd' := List.pairwise_iff_getElem.mp nd
  rcases Nat.lt_trichotomy i j with h | h | h
  · exact absurd e (nd' i j (by omega) (by omega) h)
  · exact h
  · exact absurd e.symm (nd' j i (by omega) (by omega) h)
theorem mv_ok {g : Gt} {n : Nat} {os : List Nat} (ho : IsOrd os n) (h : g.ok n) : (g.mv os).ok n := by
  have lt : ∀ {i}, i < n → ord os i < n := fun hi => ho.lt (ord_mem (by rw [ho.len]; exact hi))
  have two : ∀ {i j}, (i < n ∧ j < n ∧ i ≠ j) → ord os i < n ∧ ord os j < n ∧ ord os i ≠ ord os j := fun ⟨a, b, c⟩ => ⟨lt a, lt b, fun e => c (ord_inj ho a b e)⟩
  cases g with
  | add i c => exact lt h
  | sort i j => exact two h
  | low i j => exact two h
  | high i j => exact two h
  | copy i j => exact two h
theorem at0_set {ns : List Int} {i k : Nat} {v : Int} (h : i < ns.length) : at0 (ns.set i v) k = if k = i then v else at0 ns k := by
  unfold at0
  rw [List.getD_eq_getElem?_getD, List.getD_eq_getElem?_getD, List.getElem?_set]
  by_cases e : i = k
  · subst e
    rw [if_pos rfl, if_pos rfl, if_pos h]
    rfl
  · rw [if_neg e, if_neg (fun z => e z.symm)]
theorem at0_raised {ns : List Int} {z : Int} {i : Nat} (h : i < ns.length) : at0 (raisedL ns z) i = at0 ns i + z := by
  unfold at0 raisedL
  rw [List.getD_eq_getElem?_getD, List.getD_eq_getElem?_getD, List.getElem?_map, List.getElem?_eq_getElem h]
  rfl
theorem at0_turned {ns : List Int} {i : Nat} (h : i < ns.length) : at0 (turnedL ns) i = -at0 ns i := by
  unfold at0 turnedL
  rw [List.getD_eq_getElem?_getD, List.getD_eq_getElem?_getD, List.getElem?_map, List.getElem?_eq_getElem h]
  rfl
theorem map_put {f : Int → Int} {ns : List Int} {i : Nat} {v : Int} : (ns.map f).set i (f v) = (ns.set i v).map f := (List.map_set ..).symm
theorem ite_same {α : Type} {p q : Prop} [Decidable p] [Decidable q] {a b : α} (h : p ↔ q) : (if p then a else b) = if q then a else b := by
  by_cases hp : p
  · rw [if_pos hp, if_pos (h.mp hp)]
  · rw [if_neg hp, if_neg (fun c => hp (h.mpr c))]
theorem done_raised {g : Gt} {ns : List Int} {z : Int} (hg : g.ok ns.length) : g.done (raisedL ns z) = raisedL (g.done ns) z := by
  have mnr : ∀ a b : Int, mn (a + z) (b + z) = mn a b + z := fun a b => by unfold mn; split <;> split <;> omega
  have mxr : ∀ a b : Int, mx (a + z) (b + z) = mx a b + z := fun a b => by unfold mx; split <;> split <;> omega
  cases g with
  | add i c =>
    show (raisedL ns z).set i (at0 (raisedL ns z) i + c) = raisedL (ns.set i (at0 ns i + c)) z
    rw [at0_raised hg, show at0 ns i + z + c = (at0 ns i + c) + z by omega]
    exact map_put (f := fun x => x + z)
  | copy i j =>
    show (raisedL ns z).set i (at0 (raisedL ns z) j) = raisedL (ns.set i (at0 ns j)) z
    rw [at0_raised hg.2.1]
    exact map_put (f := fun x => x + z)
  | low i j =>
    show (raisedL ns z).set i (mn (at0 (raisedL ns z) i) (at0 (raisedL ns z) j)) = raisedL (ns.set i (mn (at0 ns i) (at0 ns j))) z
    rw [at0_raised hg.1, at0_raised hg.2.1, mnr]
    exact map_put (f := fun x => x + z)
  | high i j =>
    show (raisedL ns z).set i (mx (at0 (raisedL ns z) i) (at0 (raisedL ns z) j)) = raisedL (ns.set i (mx (at0 ns i) (at0 ns j))) z
    rw [at0_raised hg.1, at0_raised hg.2.1, mxr]
    exact map_put (f := fun x => x + z)
  | sort i j =>
    show ((raisedL ns z).set i (mn (at0 (raisedL ns z) i) (at0 (raisedL ns z) j))).set j (mx (at0 (raisedL ns z) i) (at0 (raisedL ns z) j)) = raisedL ((ns.set i (mn (at0 ns i) (at0 ns j))).set j (mx (at0 ns i) (at0 ns j))) z
    rw [at0_raised hg.1, at0_raised hg.2.1, mnr, mxr]
    unfold raisedL
    rw [map_put (f := fun x => x + z), map_put (f := fun x => x + z)]
theorem at0_turned' {ns : List Int} {i : Nat} (h : i < ns.length) : at0 (turnedL ns) i = -at0 ns i := by
  unfold at0 turnedL
  rw [List.getD_eq_getElem?_getD, List.getD_eq_getElem?_getD, List.getElem?_map, List.getElem?_eq_getElem h]
  rfl
theorem done_turned {g : Gt} {ns : List Int} (hg : g.ok ns.length) : g.tn.done (turnedL ns) = turnedL (g.done ns) := by
  have mnt : ∀ a b : Int, mn (-a) (-b) = -mx a b := fun a b => by unfold mn mx; split <;> split <;> omega
  have mxt : ∀ a b : Int, mx (-a) (-b) = -mn a b := fun a b => by unfold mn mx; split <;> split <;> omega
  have mnc : ∀ a b : Int, mn a b = mn b a := fun a b => by unfold mn; split <;> split <;> omega
  have mxc : ∀ a b : Int, mx a b = mx b a := fun a b => by unfold mx; split <;> split <;> omega
  cases g with
  | add i c =>
    show (turnedL ns).set i (at0 (turnedL ns) i + -c) = turnedL (ns.set i (at0 ns i + c))
    rw [at0_turned' hg, show -at0 ns i + -c = -(at0 ns i + c) by omega]
    exact map_put (f := fun x => -x)
  | copy i j =>
    show (turnedL ns).set i (at0 (turnedL ns) j) = turnedL (ns.set i (at0 ns j))
    rw [at0_turned' hg.2.1]
    exact map_put (f := fun x => -x)
  | low i j =>
    show (turnedL ns).set i (mx (at0 (turnedL ns) i) (at0 (turnedL ns) j)) = turnedL (ns.set i (mn (at0 ns i) (at0 ns j)))
    rw [at0_turned' hg.1, at0_turned' hg.2.1, mxt]
    exact map_put (f := fun x => -x)
  | high i j =>
    show (turnedL ns).set i (mn (at0 (turnedL ns) i) (at0 (turnedL ns) j)) = turnedL (ns.set i (mx (at0 ns i) (at0 ns j)))
    rw [at0_turned' hg.1, at0_turned' hg.2.1, mnt]
    exact map_put (f := fun x => -x)
  | sort i j =>
    show ((turnedL ns).set j (mn (at0 (turnedL ns) j) (at0 (turnedL ns) i))).set i (mx (at0 (turnedL ns) j) (at0 (turnedL ns) i)) = turnedL ((ns.set i (mn (at0 ns i) (at0 ns j))).set j (mx (at0 ns i) (at0 ns j)))
    rw [at0_turned' hg.1, at0_turned' hg.2.1, mnt, mxt, mnc (at0 ns j), mxc (at0 ns j), List.set_comm _ _ (fun e => hg.2.2 e.symm)]
    unfold turnedL
    rw [map_put (f := fun x => -x), map_put (f := fun x => -x)]
theorem put_at : ∀ (l : List (Nat × Int)) (fs : List Int), (l.map Prod.fst).Nodup → (∀ p ∈ l, p.1 < fs.length) → (∀ p ∈ l, at0 (l.foldl (fun f p => f.set p.1 p.2) fs) p.1 = p.2) ∧ ∀ k, k ∉ l.map Prod.fst → at0 (l.foldl (fun f p => f.set p.1 p.2) fs) k = at0 fs k
  | [], fs, _, _ => ⟨fun _ h => (List.not_mem_nil h).elim, fun _ _ => rfl⟩
  | q :: l, fs, nd, hl => by
    rw [List.map_cons, List.nodup_cons] at nd
    obtain ⟨h1, h2⟩ := put_at l (fs.set q.1 q.2) nd.2 (fun p hp => by rw [List.length_set]; exact hl p (List.mem_cons_of_mem _ hp))
    have hq := hl q List.mem_cons_self
    refine ⟨fun p hp => ?_, fun k hk => ?_⟩
    · rcases List.mem_cons.mp hp with e | hp
      · subst e
        show at0 (l.foldl _ (fs.set p.1 p.2)) p.1 = p.2
        rw [h2 p.1 nd.1, at0_set hq, if_pos rfl]
      · exact h1 p hp
    · rw [List.map_cons, List.mem_cons, not_or] at hk
      show at0 (l.foldl _ (fs.set q.1 q.2)) k = _
      rw [h2 k hk.2, at0_set hq, if_neg hk.1]
theorem moved_at {os : List Nat} {ns : List Int} (ho : IsOrd os ns.length) {i : Nat} (hi : i < ns.length) : at0 (movedL os ns) (ord os i) = at0 ns i := by
  have hl := ho.len
  have nd : os.Nodup := ho.nodup_iff.mpr List.nodup_range
  have e : (os.zip ns).map Prod.fst = os := List.map_fst_zip (by omega)
  have q := (put_at (os.zip ns) ns (by rw [e]; exact nd) (fun p hp => ho.lt (by rw [← e]; exact List.mem_map_of_mem hp))).1 (ord os i, at0 ns i) (by
    refine List.mem_of_getElem? (i := i) ?_
    rw [List.getElem?_zip_eq_some]
    unfold ord at0
    rw [List.getD_eq_getElem?_getD, List.getD_eq_getElem?_getD, List.getElem?_eq_getElem (show i < os.length by omega), List.getElem?_eq_getElem hi]
    exact ⟨rfl, rfl⟩)
  exact q
theorem moved_len {os : List Nat} {ns : List Int} : (movedL os ns).length = ns.length := put_len _ _
end LL

set_option synthInstance.maxSize 100000
set_option synthInstance.maxHeartbeats 4000000
namespace LL
open PySem L2 PySem.Spec PyProof.Rows
theorem at0_ints {os : List Nat} {i : Nat} (h : i < os.length) : at0 (intsN os) i = ((ord os i : Nat) : Int) := by
  unfold at0 ord intsN
  rw [List.getD_eq_getElem?_getD, List.getD_eq_getElem?_getD, List.getElem?_map, List.getElem?_eq_getElem h]
  rfl
theorem at_ord {os : List Nat} {i : Nat} (h : i < os.length) : atI ((intsN os).map Da.i) (i : Int) = some (.i ((ord os i : Nat) : Int)) := by
  rw [at_int (by rw [List.length_map]; exact h), at0_ints h]
theorem rgD_ints (n : Nat) : rgD 0 n = (intsN (List.range n)).map Da.i := by
  unfold rgD intsN
  rw [List.map_map]
  exact List.map_congr_left fun i _ => congrArg Da.i (Int.zero_add _)
theorem zip_get {xs ys : List Da} {i : Nat} {y : Da} (h : (zipD xs ys)[i]? = some y) : ∃ a b, xs[i]? = some a ∧ ys[i]? = some b ∧ y = .tup [a, b] := by
  unfold zipD at h
  rw [List.getElem?_zipWith] at h
  cases e1 : xs[i]? with
  | none => rw [e1] at h; cases h
  | some a =>
    cases e2 : ys[i]? with
    | none => rw [e1, e2] at h; cases h
    | some b => rw [e1, e2] at h; exact ⟨a, b, rfl, rfl, (Option.some.inj h).symm⟩
theorem ints_get {os : List Nat} {i : Nat} {z : Int} (h : (intsN os)[i]? = some z) : ∃ o, os[i]? = some o ∧ z = (o : Int) := by
  unfold intsN at h
  rw [List.getElem?_map] at h
  cases e : os[i]? with
  | none => rw [e] at h; cases h
  | some o => rw [e] at h; exact ⟨o, rfl, (Option.some.inj h).symm⟩
theorem intsN_len (os : List Nat) : (intsN os).length = os.length := List.length_map ..
section
variable {P : Program} {w : World} {K : PySem.W.Frag} {mg : Str → Option Value} {base : Heap} {C : Addr}
def dsp_turned_gate : DSp := fun ds μ Q => ∃ g : Gt, ds = [g.da] ∧ Q g.tn.da μ
theorem c_turned_gate (T : Txt K mg C) : C8.Cal P w K mg base 1 "turned_gate" (spD K dsp_turned_gate) [] := by
  obtain ⟨f, fd, D, b⟩ := T.d_turned_gate
  refine ⟨f, fd, _, [], fnD (dsp := dsp_turned_gate) D.fn sc_turned_gate (fun ds μ Q h => ?_) (fun cdv A outer s H E hr _ => ?_), D.mgf, D.kp, b, .nil⟩
  · obtain ⟨g, rfl, _⟩ := h
    rfl
  · refine ⟨_, (pss_cons (ps_asg (pv 0) (pg_tup (n := 3) rfl (pgs_cons (pg_name (i := 1) sc_turned_gate.nd rfl (Or.inl rfl)) (pgs_cons (pg_name (i := 2) sc_turned_gate.nd rfl (Or.inl rfl)) (pgs_cons (pg_name (i := 3) sc_turned_gate.nd rfl (Or.inl rfl)) pgs_nil)))))
      (pss_cons (ps_if (pt_cmpR op_eq (pv 1) pe_str (nomark _))
       (pss_one (ps_ret (pe_tup (pa_cons pe_str (pa_cons (pv 2) (pa_cons (pv 3) pa_nil))))))
       pss_nil)
      (pss_cons (ps_if (pt_cmpR op_eq (pv 1) pe_str (nomark _))
       (pss_one (ps_ret (pe_tup (pa_cons pe_str (pa_cons (pv 2) (pa_cons (pv 3) pa_nil))))))
       pss_nil)
      (pss_cons (ps_if (pt_cmpR op_eq (pv 1) pe_str (nomark _))
       (pss_one (ps_ret (pe_tup (pa_cons pe_str (pa_cons (pv 3) (pa_cons (pv 2) pa_nil))))))
       pss_nil)
      (pss_cons (ps_if (pt_cmpR op_eq (pv 1) pe_str (nomark _))
       (pss_one (ps_ret (pe_tup (pa_cons pe_str (pa_cons (pv 2) (pa_cons (pe_un un_neg (pv 3)) pa_nil))))))
       pss_nil)
      (pss_one (ps_ret (pv 0)))))))), ?_⟩
    dsimp only [cxOf, Cx.nox]
    refine ⟨_, inferInstance, fun ds μ Q h => ?_⟩
    obtain ⟨g, rfl, h⟩ := h
    cases g <;>
    · simp only [↓dVar, ↓dC, ↓dOp, ↓dUn, ↓dI0, ↓dU, ↓dEq, ↓dNe, ↓dIsN, ↓dIxL, ↓dIxT, ↓dIn, ↓dCat, ↓dRep, ↓dTest, ↓dAnd, ↓dOr, ↓dNot, ↓dYes, ↓dAndV, ↓dOrV, ↓dNotV, ↓dIf, ↓dChain, ↓dNil, ↓dCons, ↓dTup, ↓dLst, ↓dCall, ↓dCallD, ↓dFld, ↓dCon, ↓dCVal, ↓dMeth, ↓dProp, ↓dMake, ↓dMakeD, ↓dCallO, ↓dCB, ↓dLen, ↓dListOf, ↓dTupleOf, ↓d2I, ↓d1I, ↓dInt1, ↓dDivmod, ↓dInts, ↓dBools, ↓dIsi, ↓dBM, ↓dAppend, ↓dNoPart, ↓dPart, ↓dSl, ↓dOwn2, ↓dOwnI, ↓dOwnN, ↓dEqD, ↓dName, dgNil, dgCons, dgTup, ↓dSub, ↓dSetL, ↓dNext, ↓dSeq, ↓dBreak, ↓dCont, ↓dDrop, ↓dRet, ↓dRetN, ↓dIfS, ↓dAsg, ↓dPar, ↓dSetF, ↓dI, ↓endD, ↓startR, Option.some.injEq, Da.v.injEq, Da.tup.injEq, Da.lst.injEq, V.int.injEq, V.bl.injEq, V.str.injEq, V.ref.injEq, exists_eq_left', exists_eq_left, exists_and_left, List.cons.injEq, and_true, true_and, and_assoc, exists_eq, List.map_cons, List.map_nil, List.length_cons, List.length_nil, List.cons_append, List.nil_append, List.append_nil, List.replicate_succ, List.replicate_zero, List.getElem?_cons_succ, List.getElem?_cons_zero, List.set_cons_succ, List.set_cons_zero, List.length_map, if_true, Bool.false_eq_true, if_false, ↓reduceIte, Nat.reduceAdd, Nat.reduceSub, Nat.zero_add, exists_const, exists_false, List.length_replicate, fzv_b, fzv_i, fzv_s, fzv_n, fzv_t, fzv_l, fzv_o, ↓dIsiTE, ↓dMakeL, ↓dCMeth, ↓dReprD, ↓dReprL, ↓dTruth, scal_ii, scal_ss, scal_bb, Cell.ml.injEq, Cell.mi.injEq, reduceCtorEq, Bool.true_eq_false, not_true_eq_false, not_false_eq_true, Int.natCast_nonneg, Int.ofNat_lt, Int.ofNat_le, Int.natCast_inj, isi_ii, isi_ib, isi_ss, isi_tt, sq_t, sq_l, lst_l, lstT_l, ins_o, ins_oC, fld_cons, ofStr_eq, String.reduceEq, Bool.not_true, Bool.not_false, Bool.not_eq_true', decide_eq_false_iff_not, decide_eq_true_eq, ↓dNever, N_turned_gate, Gt.da, Gt.vs]
      first | exact h | (refine ⟨by decide, ?_⟩; exact h)
def dsp_gate_moved : DSp := fun ds μ Q => ∃ (g : Gt) (os : List Nat), ds = [g.da, rowD (intsN os)] ∧ g.ok os.length ∧ Q (g.mv os).da μ
theorem c_gate_moved (T : Txt K mg C) : C8.Cal P w K mg base 1 "gate_moved" (spD K dsp_gate_moved) [] := by
  obtain ⟨f, fd, D, b⟩ := T.d_gate_moved
  refine ⟨f, fd, _, [], fnD (dsp := dsp_gate_moved) D.fn sc_gate_moved (fun ds μ Q h => ?_) (fun cdv A outer s H E hr _ => ?_), D.mgf, D.kp, b, .nil⟩
  · obtain ⟨g, os, rfl, _⟩ := h
    rfl
  · refine ⟨_, (pss_cons (ps_asg (pv 0) (pg_tup (n := 3) rfl (pgs_cons (pg_name (i := 2) sc_gate_moved.nd rfl (Or.inl rfl)) (pgs_cons (pg_name (i := 3) sc_gate_moved.nd rfl (Or.inl rfl)) (pgs_cons (pg_name (i := 4) sc_gate_moved.nd rfl (Or.inl rfl)) pgs_nil)))))
      (pss_cons (ps_if (pt_cmpR op_eq (pv 2) pe_str (nomark _))
       (pss_one (ps_ret (pe_tup (pa_cons pe_str (pa_cons (pe_ix ix_list (pv 1) (pv 3) (fun _ _ => rfl)) (pa_cons (pv 4) pa_nil))))))
       pss_nil)
      (pss_one (ps_ret (pe_tup (pa_cons (pv 2) (pa_cons (pe_ix ix_list (pv 1) (pv 3) (fun _ _ => rfl)) (pa_cons (pe_ix ix_list (pv 1) (pv 4) (fun _ _ => rfl)) pa_nil)))))))), ?_⟩
    dsimp only [cxOf, Cx.nox]
    refine ⟨_, inferInstance, fun ds μ Q h => ?_⟩
    obtain ⟨g, os, rfl, ho, h⟩ := h
    cases g with
    | add i c =>
      simp only [↓dVar, ↓dC, ↓dOp, ↓dUn, ↓dI0, ↓dU, ↓dEq, ↓dNe, ↓dIsN, ↓dIxL, ↓dIxT, ↓dIn, ↓dCat, ↓dRep, ↓dTest, ↓dAnd, ↓dOr, ↓dNot, ↓dYes, ↓dAndV, ↓dOrV, ↓dNotV, ↓dIf, ↓dChain, ↓dNil, ↓dCons, ↓dTup, ↓dLst, ↓dCall, ↓dCallD, ↓dFld, ↓dCon, ↓dCVal, ↓dMeth, ↓dProp, ↓dMake, ↓dMakeD, ↓dCallO, ↓dCB, ↓dLen, ↓dListOf, ↓dTupleOf, ↓d2I, ↓d1I, ↓dInt1, ↓dDivmod, ↓dInts, ↓dBools, ↓dIsi, ↓dBM, ↓dAppend, ↓dNoPart, ↓dPart, ↓dSl, ↓dOwn2, ↓dOwnI, ↓dOwnN, ↓dEqD, ↓dName, dgNil, dgCons, dgTup, ↓dSub, ↓dSetL, ↓dNext, ↓dSeq, ↓dBreak, ↓dCont, ↓dDrop, ↓dRet, ↓dRetN, ↓dIfS, ↓dAsg, ↓dPar, ↓dSetF, ↓dI, ↓endD, ↓startR, Option.some.injEq, Da.v.injEq, Da.tup.injEq, Da.lst.injEq, V.int.injEq, V.bl.injEq, V.str.injEq, V.ref.injEq, exists_eq_left', exists_eq_left, exists_and_left, List.cons.injEq, and_true, true_and, and_assoc, exists_eq, List.map_cons, List.map_nil, List.length_cons, List.length_nil, List.cons_append, List.nil_append, List.append_nil, List.replicate_succ, List.replicate_zero, List.getElem?_cons_succ, List.getElem?_cons_zero, List.set_cons_succ, List.set_cons_zero, List.length_map, if_true, Bool.false_eq_true, if_false, ↓reduceIte, Nat.reduceAdd, Nat.reduceSub, Nat.zero_add, exists_const, exists_false, List.length_replicate, fzv_b, fzv_i, fzv_s, fzv_n, fzv_t, fzv_l, fzv_o, ↓dIsiTE, ↓dMakeL, ↓dCMeth, ↓dReprD, ↓dReprL, ↓dTruth, scal_ii, scal_ss, scal_bb, Cell.ml.injEq, Cell.mi.injEq, reduceCtorEq, Bool.true_eq_false, not_true_eq_false, not_false_eq_true, Int.natCast_nonneg, Int.ofNat_lt, Int.ofNat_le, Int.natCast_inj, isi_ii, isi_ib, isi_ss, isi_tt, sq_t, sq_l, lst_l, lstT_l, ins_o, ins_oC, fld_cons, ofStr_eq, String.reduceEq, Bool.not_true, Bool.not_false, Bool.not_eq_true', decide_eq_false_iff_not, decide_eq_true_eq, ↓dNever, N_gate_moved, Gt.da, Gt.vs]
      exact ⟨_, at_ord ho, by decide, h⟩
    | _ i j =>
      simp only [↓dVar, ↓dC, ↓dOp, ↓dUn, ↓dI0, ↓dU, ↓dEq, ↓dNe, ↓dIsN, ↓dIxL, ↓dIxT, ↓dIn, ↓dCat, ↓dRep, ↓dTest, ↓dAnd, ↓dOr, ↓dNot, ↓dYes, ↓dAndV, ↓dOrV, ↓dNotV, ↓dIf, ↓dChain, ↓dNil, ↓dCons, ↓dTup, ↓dLst, ↓dCall, ↓dCallD, ↓dFld, ↓dCon, ↓dCVal, ↓dMeth, ↓dProp, ↓dMake, ↓dMakeD, ↓dCallO, ↓dCB, ↓dLen, ↓dListOf, ↓dTupleOf, ↓d2I, ↓d1I, ↓dInt1, ↓dDivmod, ↓dInts, ↓dBools, ↓dIsi, ↓dBM, ↓dAppend, ↓dNoPart, ↓dPart, ↓dSl, ↓dOwn2, ↓dOwnI, ↓dOwnN, ↓dEqD, ↓dName, dgNil, dgCons, dgTup, ↓dSub, ↓dSetL, ↓dNext, ↓dSeq, ↓dBreak, ↓dCont, ↓dDrop, ↓dRet, ↓dRetN, ↓dIfS, ↓dAsg, ↓dPar, ↓dSetF, ↓dI, ↓endD, ↓startR, Option.some.injEq, Da.v.injEq, Da.tup.injEq, Da.lst.injEq, V.int.injEq, V.bl.injEq, V.str.injEq, V.ref.injEq, exists_eq_left', exists_eq_left, exists_and_left, List.cons.injEq, and_true, true_and, and_assoc, exists_eq, List.map_cons, List.map_nil, List.length_cons, List.length_nil, List.cons_append, List.nil_append, List.append_nil, List.replicate_succ, List.replicate_zero, List.getElem?_cons_succ, List.getElem?_cons_zero, List.set_cons_succ, List.set_cons_zero, List.length_map, if_true, Bool.false_eq_true, if_false, ↓reduceIte, Nat.reduceAdd, Nat.reduceSub, Nat.zero_add, exists_const, exists_false, List.length_replicate, fzv_b, fzv_i, fzv_s, fzv_n, fzv_t, fzv_l, fzv_o, ↓dIsiTE, ↓dMakeL, ↓dCMeth, ↓dReprD, ↓dReprL, ↓dTruth, scal_ii, scal_ss, scal_bb, Cell.ml.injEq, Cell.mi.injEq, reduceCtorEq, Bool.true_eq_false, not_true_eq_false, not_false_eq_true, Int.natCast_nonneg, Int.ofNat_lt, Int.ofNat_le, Int.natCast_inj, isi_ii, isi_ib, isi_ss, isi_tt, sq_t, sq_l, lst_l, lstT_l, ins_o, ins_oC, fld_cons, ofStr_eq, String.reduceEq, Bool.not_true, Bool.not_false, Bool.not_eq_true', decide_eq_false_iff_not, decide_eq_true_eq, ↓dNever, N_gate_moved, Gt.da, Gt.vs]
      exact ⟨_, at_ord ho.1, _, at_ord ho.2.1, by decide, h⟩
def dsp_is_order : DSp := fun ds μ Q => ∃ (os : List Nat) (n : Nat), ds = [rowD (intsN os), .i n] ∧ IsOrd os n ∧ n ≤ 12 ∧ Q (.b true) μ
theorem c_is_order (T : Txt K mg C) : C8.Cal P w K mg base 2 "is_order" (spD K dsp_is_order) [] := by
  obtain ⟨f, fd, D, b⟩ := T.d_is_order
  refine ⟨f, fd, _, [], fnD (dsp := dsp_is_order) D.fn sc_is_order (fun ds μ Q h => ?_) (fun cdv A outer s H E hr _ => ?_), D.mgf, D.kp, b, .nil⟩
  · obtain ⟨os, n, rfl, _⟩ := h
    rfl
  · refine ⟨_, (pss_cons (ps_if (PW.pt (pw_or (pt_not (pt_val (C8.pe_c (c_is_list T) hr (by decide) rfl (pa_cons (pv 0) pa_nil)))) (pw_or1 (pt_not (pt_val (pe_callB (cr_all rfl) (by rfl) T.b_all (by decide +kernel) (pa_cons (pe_lc (own := [("lane", 2)]) (g := (gName 2)) (tt := tYes) rfl sc_is_order.nd (pi_list (pv 0)) (blkOk_by (N := N_is_order) (sc := C8.fnScope s_is_order) (by decide +kernel)) (fun _ _ _ _ _ => (pg_name (i := 2) sc_is_order.nd rfl (Or.inl rfl))) (fun _ _ _ _ _ => pts_nil) (fun _ _ _ _ _ => (C8.pe_c (c_is_integer T) hr (by decide) rfl (pa_cons (pv 2) pa_nil)))) pa_nil)))))))
       (pss_one (ps_ret pe_bl))
       pss_nil)
      (pss_one (ps_ret (pe_cmpR (op_eqD hr.units) (pe_callB cr_sorted (by rfl) T.b_sorted (by decide +kernel) (pa_cons (pv 0) pa_nil)) (pe_listRg rfl (by rfl) T.b_list (prg_1 (by rfl) T.b_range (pv 1))) (nomark _))))), ?_⟩
    dsimp only [cxOf, Cx.nox]
    refine ⟨_, inferInstance, fun ds μ Q h => ?_⟩
    obtain ⟨os, n, rfl, ho, hn, h⟩ := h
    have hl := ho.len
    refine ⟨_, rfl, _, rfl, ⟨_, .inl rfl⟩, true, rfl, ?_⟩
    show (if (!true) = true then _ else _)
    rw [if_neg (by decide)]
    refine ⟨by decide, _, rfl, _, _, .l, trivial, ?_⟩
    refine lcM (fun _ => .b true) (by rw [List.length_map, intsN_len]; omega) (fun _ _ => trivial) (fun i y μ' R hy _ r => ?_) (.inl ?_)
    · obtain ⟨z, rfl, _⟩ := getMap hy
      simp only [dVar, dC, dOp, dUn, dI0, dU, dEq, dNe, dIsN, dIxL, dIxT, dIn, dCat, dRep, dTest, dAnd, dOr, dNot, dYes, dAndV, dOrV, dNotV, dIf, dChain, dNil, dCons, dTup, dLst, dCall, dCallD, dFld, dCon, dCVal, dMeth, dProp, dMake, dMakeD, dCallO, dCB, dLen, dListOf, dTupleOf, d2I, d1I, dInt1, dDivmod, dInts, dBools, dIsi, dBM, dAppend, dNoPart, dPart, dSl, dOwn2, dOwnI, dOwnN, dEqD, dName, dgNil, dgCons, dgTup, dSub, dSetL, dNext, dSeq, dBreak, dCont, dDrop, dRet, dRetN, dIfS, dAsg, dPar, dSetF, dI, endD, startR, Option.some.injEq, Da.v.injEq, Da.tup.injEq, Da.lst.injEq, V.int.injEq, V.bl.injEq, V.str.injEq, V.ref.injEq, exists_eq_left', exists_eq_left, exists_and_left, List.cons.injEq, and_true, true_and, and_assoc, exists_eq, List.map_cons, List.map_nil, List.length_cons, List.length_nil, List.cons_append, List.nil_append, List.append_nil, List.replicate_succ, List.replicate_zero, List.getElem?_cons_succ, List.getElem?_cons_zero, List.set_cons_succ, List.set_cons_zero, List.length_map, if_true, Bool.false_eq_true, if_false, reduceIte, Nat.reduceAdd, Nat.reduceSub, Nat.zero_add, exists_const, exists_false, List.length_replicate, fzv_b, fzv_i, fzv_s, fzv_n, fzv_t, fzv_l, fzv_o, dIsiTE, dMakeL, dCMeth, dReprD, dReprL, dTruth, scal_ii, scal_ss, scal_bb, Cell.ml.injEq, Cell.mi.injEq, reduceCtorEq, Bool.true_eq_false, not_true_eq_false, not_false_eq_true, Int.natCast_nonneg, Int.ofNat_lt, Int.ofNat_le, Int.natCast_inj, isi_ii, isi_ib, isi_ss, isi_tt, sq_t, sq_l, lst_l, lstT_l, ins_o, ins_oC, fld_cons, ofStr_eq, String.reduceEq, Bool.not_true, Bool.not_false, Bool.not_eq_true', decide_eq_false_iff_not, decide_eq_true_eq, dNever, lcStep, wipeR, dsp_is_integer]
      exact r
    · refine ⟨_, List.replicate (intsN os).length true, rfl, .inl ?_, _, rfl, ?_⟩
      · rw [List.map_replicate, List.map_const', List.length_map]
      · have ea : (fun bs : List Bool => bs.all id) (List.replicate (intsN os).length true) = true := by simp
        rw [ea]
        show (if (!true) = true then _ else _)
        rw [if_neg (by decide)]
        refine ⟨_, rfl, _, intsN os, rfl, .l, by rw [intsN_len]; omega, fun ns' hp hs => .inl ⟨_, rfl, n, rfl, by omega, by omega, .inl ?_⟩⟩
        have e : ns' = intsN (List.range n) := srt_eq hs (range_srt n) (hp.trans (ho.map _))
        rw [e, Int.toNat_natCast, rgD_ints]
        exact eqD_same (eqd_row _) (by decide) (.inl h)
def dsp_check_order : DSp := fun ds μ Q => ∃ (os : List Nat) (n : Nat), ds = [rowD (intsN os), .i n] ∧ IsOrd os n ∧ n ≤ 12 ∧ Q .n μ
theorem c_check_order (T : Txt K mg C) : C8.Cal P w K mg base 3 "check_order" (spD K dsp_check_order) [] := by
  obtain ⟨f, fd, D, b⟩ := T.d_check_order
  refine ⟨f, fd, _, [], fnD (dsp := dsp_check_order) D.fn sc_check_order (fun ds μ Q h => ?_) (fun cdv A outer s H E hr _ => ?_), D.mgf, D.kp, b, .nil⟩
  · obtain ⟨os, n, rfl, _⟩ := h
    rfl
  · refine ⟨_, (pss_one (ps_if (pt_not (pt_val (C8.pe_c (c_is_order T) hr (by decide) rfl (pa_cons (pv 0) (pa_cons (pv 1) pa_nil)))))
       (pss_one ps_never)
       pss_nil)), ?_⟩
    dsimp only [cxOf, Cx.nox]
    refine ⟨_, inferInstance, fun ds μ Q h => ?_⟩
    obtain ⟨os, n, rfl, ho, hn, h⟩ := h
    simp only [dVar, dC, dOp, dUn, dI0, dU, dEq, dNe, dIsN, dIxL, dIxT, dIn, dCat, dRep, dTest, dAnd, dOr, dNot, dYes, dAndV, dOrV, dNotV, dIf, dChain, dNil, dCons, dTup, dLst, dCall, dCallD, dFld, dCon, dCVal, dMeth, dProp, dMake, dMakeD, dCallO, dCB, dLen, dListOf, dTupleOf, d2I, d1I, dInt1, dDivmod, dInts, dBools, dIsi, dBM, dAppend, dNoPart, dPart, dSl, dOwn2, dOwnI, dOwnN, dEqD, dName, dgNil, dgCons, dgTup, dSub, dSetL, dNext, dSeq, dBreak, dCont, dDrop, dRet, dRetN, dIfS, dAsg, dPar, dSetF, dI, endD, startR, Option.some.injEq, Da.v.injEq, Da.tup.injEq, Da.lst.injEq, V.int.injEq, V.bl.injEq, V.str.injEq, V.ref.injEq, exists_eq_left', exists_eq_left, exists_and_left, List.cons.injEq, and_true, true_and, and_assoc, exists_eq, List.map_cons, List.map_nil, List.length_cons, List.length_nil, List.cons_append, List.nil_append, List.append_nil, List.replicate_succ, List.replicate_zero, List.getElem?_cons_succ, List.getElem?_cons_zero, List.set_cons_succ, List.set_cons_zero, List.length_map, if_true, Bool.false_eq_true, if_false, reduceIte, Nat.reduceAdd, Nat.reduceSub, Nat.zero_add, exists_const, exists_false, List.length_replicate, fzv_b, fzv_i, fzv_s, fzv_n, fzv_t, fzv_l, fzv_o, dIsiTE, dMakeL, dCMeth, dReprD, dReprL, dTruth, scal_ii, scal_ss, scal_bb, Cell.ml.injEq, Cell.mi.injEq, reduceCtorEq, Bool.true_eq_false, not_true_eq_false, not_false_eq_true, Int.natCast_nonneg, Int.ofNat_lt, Int.ofNat_le, Int.natCast_inj, isi_ii, isi_ib, isi_ss, isi_tt, sq_t, sq_l, lst_l, lstT_l, ins_o, ins_oC, fld_cons, ofStr_eq, String.reduceEq, Bool.not_true, Bool.not_false, Bool.not_eq_true', decide_eq_false_iff_not, decide_eq_true_eq, dNever, N_check_order, dsp_is_order]
    exact ⟨os, rfl, ho, hn, h⟩
def dsp_check_any_content : DSp := fun ds μ Q => ∃ (x : Da) (ns : List Int), ds = [x] ∧ Ct x ns ∧ Q .n μ
theorem c_check_any_content (T : Txt K mg C) : C8.Cal P w K mg base 4 "check_any_content" (spD K dsp_check_any_content) [] := by
  obtain ⟨f, fd, D, b⟩ := T.d_check_any_content
  refine ⟨f, fd, _, [], fnD (dsp := dsp_check_any_content) D.fn sc_check_any_content (fun ds μ Q h => ?_) (fun cdv A outer s H E hr _ => ?_), D.mgf, D.kp, b, .nil⟩
  · obtain ⟨x, ns, rfl, _⟩ := h
    rfl
  · refine ⟨_, (pss_one (ps_if (pt_not (pt_val (C8.pe_c (c_is_content T) hr (by decide) rfl (pa_cons (pv 0) pa_nil))))
       (pss_one ps_never)
       pss_nil)), ?_⟩
    dsimp only [cxOf, Cx.nox]
    refine ⟨_, inferInstance, fun ds μ Q h => ?_⟩
    obtain ⟨x, ns, rfl, c, h⟩ := h
    simp only [dVar, dC, dOp, dUn, dI0, dU, dEq, dNe, dIsN, dIxL, dIxT, dIn, dCat, dRep, dTest, dAnd, dOr, dNot, dYes, dAndV, dOrV, dNotV, dIf, dChain, dNil, dCons, dTup, dLst, dCall, dCallD, dFld, dCon, dCVal, dMeth, dProp, dMake, dMakeD, dCallO, dCB, dLen, dListOf, dTupleOf, d2I, d1I, dInt1, dDivmod, dInts, dBools, dIsi, dBM, dAppend, dNoPart, dPart, dSl, dOwn2, dOwnI, dOwnN, dEqD, dName, dgNil, dgCons, dgTup, dSub, dSetL, dNext, dSeq, dBreak, dCont, dDrop, dRet, dRetN, dIfS, dAsg, dPar, dSetF, dI, endD, startR, Option.some.injEq, Da.v.injEq, Da.tup.injEq, Da.lst.injEq, V.int.injEq, V.bl.injEq, V.str.injEq, V.ref.injEq, exists_eq_left', exists_eq_left, exists_and_left, List.cons.injEq, and_true, true_and, and_assoc, exists_eq, List.map_cons, List.map_nil, List.length_cons, List.length_nil, List.cons_append, List.nil_append, List.append_nil, List.replicate_succ, List.replicate_zero, List.getElem?_cons_succ, List.getElem?_cons_zero, List.set_cons_succ, List.set_cons_zero, List.length_map, if_true, Bool.false_eq_true, if_false, reduceIte, Nat.reduceAdd, Nat.reduceSub, Nat.zero_add, exists_const, exists_false, List.length_replicate, fzv_b, fzv_i, fzv_s, fzv_n, fzv_t, fzv_l, fzv_o, dIsiTE, dMakeL, dCMeth, dReprD, dReprL, dTruth, scal_ii, scal_ss, scal_bb, Cell.ml.injEq, Cell.mi.injEq, reduceCtorEq, Bool.true_eq_false, not_true_eq_false, not_false_eq_true, Int.natCast_nonneg, Int.ofNat_lt, Int.ofNat_le, Int.natCast_inj, isi_ii, isi_ib, isi_ss, isi_tt, sq_t, sq_l, lst_l, lstT_l, ins_o, ins_oC, fld_cons, ofStr_eq, String.reduceEq, Bool.not_true, Bool.not_false, Bool.not_eq_true', decide_eq_false_iff_not, decide_eq_true_eq, dNever, N_check_any_content, dsp_is_content]
    exact ⟨ns, c, h⟩
def dsp_check_number : DSp := fun ds μ Q => ∃ i, ds = [.i i] ∧ Q .n μ
theorem c_check_number (T : Txt K mg C) : C8.Cal P w K mg base 2 "check_number" (spD K dsp_check_number) [] := by
  obtain ⟨f, fd, D, b⟩ := T.d_check_number
  refine ⟨f, fd, _, [], fnD (dsp := dsp_check_number) D.fn sc_check_number (fun ds μ Q h => ?_) (fun cdv A outer s H E hr _ => ?_), D.mgf, D.kp, b, .nil⟩
  · obtain ⟨i, rfl, _⟩ := h
    rfl
  · refine ⟨_, (pss_one (ps_if (pt_not (pt_val (C8.pe_c (c_is_integer T) hr (by decide) rfl (pa_cons (pv 0) pa_nil))))
       (pss_one ps_never)
       pss_nil)), ?_⟩
    dsimp only [cxOf, Cx.nox]
    refine ⟨_, inferInstance, fun ds μ Q h => ?_⟩
    obtain ⟨i, rfl, h⟩ := h
    simp only [dVar, dC, dOp, dUn, dI0, dU, dEq, dNe, dIsN, dIxL, dIxT, dIn, dCat, dRep, dTest, dAnd, dOr, dNot, dYes, dAndV, dOrV, dNotV, dIf, dChain, dNil, dCons, dTup, dLst, dCall, dCallD, dFld, dCon, dCVal, dMeth, dProp, dMake, dMakeD, dCallO, dCB, dLen, dListOf, dTupleOf, d2I, d1I, dInt1, dDivmod, dInts, dBools, dIsi, dBM, dAppend, dNoPart, dPart, dSl, dOwn2, dOwnI, dOwnN, dEqD, dName, dgNil, dgCons, dgTup, dSub, dSetL, dNext, dSeq, dBreak, dCont, dDrop, dRet, dRetN, dIfS, dAsg, dPar, dSetF, dI, endD, startR, Option.some.injEq, Da.v.injEq, Da.tup.injEq, Da.lst.injEq, V.int.injEq, V.bl.injEq, V.str.injEq, V.ref.injEq, exists_eq_left', exists_eq_left, exists_and_left, List.cons.injEq, and_true, true_and, and_assoc, exists_eq, List.map_cons, List.map_nil, List.length_cons, List.length_nil, List.cons_append, List.nil_append, List.append_nil, List.replicate_succ, List.replicate_zero, List.getElem?_cons_succ, List.getElem?_cons_zero, List.set_cons_succ, List.set_cons_zero, List.length_map, if_true, Bool.false_eq_true, if_false, reduceIte, Nat.reduceAdd, Nat.reduceSub, Nat.zero_add, exists_const, exists_false, List.length_replicate, fzv_b, fzv_i, fzv_s, fzv_n, fzv_t, fzv_l, fzv_o, dIsiTE, dMakeL, dCMeth, dReprD, dReprL, dTruth, scal_ii, scal_ss, scal_bb, Cell.ml.injEq, Cell.mi.injEq, reduceCtorEq, Bool.true_eq_false, not_true_eq_false, not_false_eq_true, Int.natCast_nonneg, Int.ofNat_lt, Int.ofNat_le, Int.natCast_inj, isi_ii, isi_ib, isi_ss, isi_tt, sq_t, sq_l, lst_l, lstT_l, ins_o, ins_oC, fld_cons, ofStr_eq, String.reduceEq, Bool.not_true, Bool.not_false, Bool.not_eq_true', decide_eq_false_iff_not, decide_eq_true_eq, dNever, N_check_number, dsp_is_integer]
    exact h
def dsp_raised : DSp := fun ds μ Q => ∃ (ns : List Int) (z : Int), ds = [rowD ns, .i z] ∧ 1 ≤ ns.length ∧ ns.length ≤ 12 ∧ NewL ((raisedL ns z).map Da.i) μ Q
theorem c_raised (T : Txt K mg C) : C8.Cal P w K mg base 5 "raised" (spD K dsp_raised) [] := by
  obtain ⟨f, fd, D, b⟩ := T.d_raised
  refine ⟨f, fd, _, [], fnD (dsp := dsp_raised) D.fn sc_raised (fun ds μ Q h => ?_) (fun cdv A outer s H E hr _ => ?_), D.mgf, D.kp, b, .nil⟩
  · obtain ⟨ns, z, rfl, _⟩ := h
    rfl
  · refine ⟨_, (pss_cons (ps_expr (C8.pe_c (c_check_any_content T) hr (by decide) rfl (pa_cons (pv 0) pa_nil)))
      (pss_cons (ps_expr (C8.pe_c (c_check_number T) hr (by decide) rfl (pa_cons (pv 1) pa_nil)))
      (pss_one (ps_ret (pe_lc (own := [("own", 2)]) (g := (gName 2)) (tt := tYes) rfl sc_raised.nd (pi_list (pv 0)) (blkOk_by (N := N_raised) (sc := C8.fnScope s_raised) (by decide +kernel)) (fun _ _ _ _ _ => (pg_name (i := 2) sc_raised.nd rfl (Or.inl rfl))) (fun _ _ _ _ _ => pts_nil) (fun _ _ _ _ _ => (pe_op op_add (pv 2) (pv 1)))))))), ?_⟩
    dsimp only [cxOf, Cx.nox]
    refine ⟨_, inferInstance, fun ds μ Q h => ?_⟩
    obtain ⟨ns, z, rfl, h1, h2, h⟩ := h
    refine ⟨_, rfl, _, ns, rfl, ⟨.inl rfl, h1, h2⟩, _, rfl, z, rfl, by decide, _, rfl, _, _, .l, trivial, ?_⟩
    refine lcM (fun d => match d with | .v (.int i) => .i (i + z) | d => d) (by rw [List.length_map]; omega) (fun _ _ => trivial) (fun i y μ' R hy _ r => ?_) ?_
    · obtain ⟨x, rfl, _⟩ := getMap hy
      exact ⟨_, rfl, _, rfl, _, _, rfl, rfl, r⟩
    · have e : (ns.map Da.i).map (fun d => match d with | .v (.int i) => Da.i (i + z) | d => d) = (raisedL ns z).map Da.i := by
        unfold raisedL
        rw [List.map_map, List.map_map]
        rfl
      rw [e]
      exact h.imp (fun h => .inl h) fun h p hp => .inl (h p hp)
def dsp_turned : DSp := fun ds μ Q => ∃ (ns : List Int), ds = [rowD ns] ∧ 1 ≤ ns.length ∧ ns.length ≤ 12 ∧ NewL ((turnedL ns).map Da.i) μ Q
theorem c_turned (T : Txt K mg C) : C8.Cal P w K mg base 5 "turned" (spD K dsp_turned) [] := by
  obtain ⟨f, fd, D, b⟩ := T.d_turned
  refine ⟨f, fd, _, [], fnD (dsp := dsp_turned) D.fn sc_turned (fun ds μ Q h => ?_) (fun cdv A outer s H E hr _ => ?_), D.mgf, D.kp, b, .nil⟩
  · obtain ⟨ns, rfl, _⟩ := h
    rfl
  · refine ⟨_, (pss_cons (ps_expr (C8.pe_c (c_check_any_content T) hr (by decide) rfl (pa_cons (pv 0) pa_nil)))
      (pss_one (ps_ret (pe_lc (own := [("number", 1)]) (g := (gName 1)) (tt := tYes) rfl sc_turned.nd (pi_list (pv 0)) (blkOk_by (N := N_turned) (sc := C8.fnScope s_turned) (by decide +kernel)) (fun _ _ _ _ _ => (pg_name (i := 1) sc_turned.nd rfl (Or.inl rfl))) (fun _ _ _ _ _ => pts_nil) (fun _ _ _ _ _ => (pe_un un_neg (pv 1))))))), ?_⟩
    dsimp only [cxOf, Cx.nox]
    refine ⟨_, inferInstance, fun ds μ Q h => ?_⟩
    obtain ⟨ns, rfl, h1, h2, h⟩ := h
    refine ⟨_, rfl, _, ns, rfl, ⟨.inl rfl, h1, h2⟩, by decide, _, rfl, _, _, .l, trivial, ?_⟩
    refine lcM (fun d => match d with | .v (.int i) => .i (-i) | d => d) (by rw [List.length_map]; omega) (fun _ _ => trivial) (fun i y μ' R hy _ r => ?_) ?_
    · obtain ⟨x, rfl, _⟩ := getMap hy
      exact ⟨_, rfl, _, rfl, r⟩
    · have e : (ns.map Da.i).map (fun d => match d with | .v (.int i) => Da.i (-i) | d => d) = (turnedL ns).map Da.i := by
        unfold turnedL
        rw [List.map_map, List.map_map]
        rfl
      rw [e]
      exact h.imp (fun h => .inl h) fun h p hp => .inl (h p hp)
def dsp_moved : DSp := fun ds μ Q => ∃ (ns : List Int) (os : List Nat), ds = [rowD ns, rowD (intsN os)] ∧ 1 ≤ ns.length ∧ ns.length ≤ 12 ∧ IsOrd os ns.length ∧ NewL ((movedL os ns).map Da.i) μ Q
theorem c_moved (T : Txt K mg C) : C8.Cal P w K mg base 5 "moved" (spD K dsp_moved) [] := by
  obtain ⟨f, fd, D, b⟩ := T.d_moved
  refine ⟨f, fd, _, [], fnD (dsp := dsp_moved) D.fn sc_moved (fun ds μ Q h => ?_) (fun cdv A outer s H E hr _ => ?_), D.mgf, D.kp, b, .nil⟩
  · obtain ⟨ns, os, rfl, _⟩ := h
    rfl
  · refine ⟨_, (pss_cons (ps_expr (C8.pe_c (c_check_any_content T) hr (by decide) rfl (pa_cons (pv 0) pa_nil)))
      (pss_cons (ps_expr (C8.pe_c (c_check_order T) hr (by decide) rfl (pa_cons (pv 1) (pa_cons (pe_callB call_len_seq (by rfl) T.b_len (by decide +kernel) (pa_cons (pv 0) pa_nil)) pa_nil))))
      (pss_cons (ps_set (i := 2) sc_moved.nd rfl (Or.inl rfl) (pe_callTy call_list_of (by rfl) T.b_list (by decide +kernel) (pa_cons (pv 0) pa_nil)))
      (pss_cons (ps_for PassesOwn.never rfl (pi_zip (by rfl) T.b_zip (pa_cons (pv 1) (pa_cons (pv 0) pa_nil))) (pg_tup (n := 2) rfl (pgs_cons (pg_name (i := 3) sc_moved.nd rfl (Or.inl rfl)) (pgs_cons (pg_name (i := 4) sc_moved.nd rfl (Or.inl rfl)) pgs_nil)))
       (pss_one (ps_asg (pv 4) (pg_sub (pv 2) (pv 3) set_list))))
      (pss_one (ps_ret (pv 2))))))), ?_⟩
    dsimp only [cxOf, Cx.nox]
    refine ⟨_, inferInstance, fun ds μ Q h => ?_⟩
    obtain ⟨ns, os, rfl, h1, h2, ho, h⟩ := h
    have hl := ho.len
    refine ⟨_, rfl, _, ns, rfl, ⟨.inl rfl, h1, h2⟩, _, rfl, _, rfl, _, _, rfl, .l, os, ns.length, (by rw [List.length_map]), ho, h2, _, rfl, _, _, rfl, .l, .inr fun p hp => ?_⟩
    refine ⟨_, rfl, _, rfl, _, _, _, _, _, _, rfl, .l, .l, trivial, trivial, fun i ρ' μ' => μ' = setM μ p (.ml ((putTo os ns i).map Da.i)) ∧ ∃ d e, ρ' = [some (rowD ns), some (rowD (intsN os)), some (.r p), d, e], ⟨rfl, none, none, rfl⟩, fun _ _ _ _ _ => ⟨trivial, trivial⟩, fun i y ρ' μ' hy z => ?_, fun ρ' μ' z => ?_⟩
    · obtain ⟨rfl, d, e, rfl⟩ := z
      obtain ⟨a, b', q1, q2, rfl⟩ := zip_get hy
      obtain ⟨z, rfl, q4⟩ := getMap q1
      obtain ⟨x, rfl, q5⟩ := getMap q2
      obtain ⟨o, q3, rfl⟩ := ints_get q4
      have ol : o < ns.length := ho.lt (List.mem_of_getElem? q3)
      refine ⟨_, rfl, rfl, _, _, rfl, _, _, rfl, rfl, _, rfl, _, rfl, _, rfl, p, _, _, o, rfl, rfl, setM_at, ixN_nat ?_, ?_, _, _, rfl⟩
      · rw [List.length_map]
        have : (putTo os ns i).length = ns.length := put_len _ _
        omega
      · rw [setM_setM, map_set_i, put_next q3 q5]
    · obtain ⟨rfl, d, e, rfl⟩ := z
      have e1 : (zipD ((intsN os).map Da.i) (ns.map Da.i)).length = ns.length := by
        unfold zipD
        rw [List.length_zipWith, List.length_map, intsN_len, List.length_map, hl, Nat.min_self]
      rw [e1, put_end hl]
      exact .no ⟨_, rfl, fzv_newL hp h⟩
end
end LL

set_option synthInstance.maxSize 100000
set_option synthInstance.maxHeartbeats 4000000
namespace LL
open PySem L2 PySem.Spec PyProof.Rows
theorem lcMap {α : Type} {xs : List α} {φ ψ : α → Da} {G : Mu → Prop} {stp : Da → Mu → LcK → Prop} {P : DP} {μ1 : Mu} (hz : xs.length < 100000) (hG : ∀ μ', (∀ b, μ1 b ≠ none → μ' b = μ1 b) → G μ')
    (hs : ∀ (i : Nat) a μ' (R : LcK), xs[i]? = some a → (∀ b, μ1 b ≠ none → μ' b = μ1 b) → R (some (ψ a)) μ' → stp (φ a) μ' R) (hp : NewL (xs.map ψ) μ1 P) : LcB (xs.map φ) G stp P μ1 := by
  intro p hp0
  have keep : ∀ c, ∀ b, μ1 b ≠ none → setM μ1 p c b = μ1 b := fun c b h => setM_ne fun z => h (by rw [z]; exact hp0)
  refine ⟨fun i μ' => μ' = setM μ1 p (.ml ((xs.take i).map ψ)), rfl, fun i μ' _ e => hG _ (by rw [e]; exact keep _), fun i x μ' hx e => ?_, fun μ' e => ?_⟩
  · rw [List.getElem?_map] at hx
    cases ha : xs[i]? with
    | none => rw [ha] at hx; cases hx
    | some a =>
      rw [ha] at hx
      cases hx
      subst e
      refine hs i a _ _ ha (keep _) ⟨_, setM_at, ?_, ?_⟩
      · have := (List.getElem?_eq_some_iff.mp ha).1
        rw [List.length_map, List.length_take]
        exact Nat.lt_of_lt_of_le (by omega : min i xs.length < 100000) (by decide)
      · show setM (setM μ1 p _) p _ = setM μ1 p _
        rw [setM_setM, getE_take ha, List.map_append]
        rfl
  · subst e
    rw [List.length_map, List.take_length]
    refine ⟨_, setM_at, ?_⟩
    rcases hp with h | h
    · refine .inl ?_
      rw [remM_setM hp0]
      exact h
    · exact .inr (h p hp0)
theorem NetOk.tn {n : Nat} {gs : List Gt} (h : NetOk n gs) : NetOk n (gs.map Gt.tn) := ⟨h.low, h.high, fun g hg => by
  obtain ⟨g', h1, rfl⟩ := List.mem_map.mp hg
  exact tn_ok (h.ok g' h1), by rw [List.length_map]; exact h.few⟩
theorem NetOk.mv {n : Nat} {gs : List Gt} {os : List Nat} (h : NetOk n gs) (ho : IsOrd os n) : NetOk n (gs.map (Gt.mv os)) := ⟨h.low, h.high, fun g hg => by
  obtain ⟨g', h1, rfl⟩ := List.mem_map.mp hg
  exact mv_ok ho (h.ok g' h1), by rw [List.length_map]; exact h.few⟩
theorem Gt.ok.wide {n m : Nat} {g : Gt} (h : g.ok n) (l : n ≤ m) : g.ok m := by
  cases g with
  | add i c => exact Nat.lt_of_lt_of_le h l
  | _ i j => exact ⟨Nat.lt_of_lt_of_le h.1 l, Nat.lt_of_lt_of_le h.2.1 l, h.2.2⟩
theorem NetOk.wide {n m : Nat} {gs : List Gt} (h : NetOk n gs) (l : n ≤ m) (l2 : m ≤ 12) : NetOk m gs := ⟨Nat.le_trans h.low l, l2, fun g hg => (h.ok g hg).wide l, h.few⟩
section
variable {P : Program} {w : World} {K : PySem.W.Frag} {mg : Str → Option Value} {base : Heap} {C : Addr}
def dsp_Net_len (C : Addr) : DSp := fun ds μ Q => ∃ (n : Nat) (gs : List Gt), ds = [netD C n gs] ∧ Q (.i gs.length) μ
theorem c_len (T : Txt K mg C) : ∃ f fd, FnOk P w K mg base CX0 1 f fd ["self"] (spD K (dsp_Net_len C)) ∧ PySem.W.findIn K (.ref C) "__len__" = some (some (.ref f)) ∧ PySem.W.isFn K (.ref f) = true ∧ Binds K fd ["self"] [] := by
  obtain ⟨f, fd, F, h1, h2, b⟩ := T.i_len
  refine ⟨f, fd, fnD (dsp := dsp_Net_len C) F sc_Net_len (fun ds μ Q h => ?_) (fun cdv A outer s H E hr _ => ?_), h1, h2, b⟩
  · obtain ⟨n, gs, rfl, _⟩ := h
    rfl
  · refine ⟨_, (pss_one (ps_ret (pe_callB call_len_seq (by rfl) T.b_len (by decide +kernel) (pa_cons (pe_fld (pv 0) rfl) pa_nil)))), ?_⟩
    dsimp only [cxOf, Cx.nox]
    refine ⟨_, inferInstance, fun ds μ Q h => ?_⟩
    obtain ⟨n, gs, rfl, h⟩ := h
    refine ⟨_, rfl, C, _, _, _, .o, T.cl, T.nG, rfl, _, _, rfl, .l, .inl ?_⟩
    rw [List.length_map]
    exact h
def dsp_Net_getitem (C : Addr) : DSp := fun ds μ Q => ∃ (n i : Nat) (gs : List Gt) (g : Gt), ds = [netD C n gs, .i i] ∧ gs[i]? = some g ∧ Q g.da μ
theorem c_getitem (T : Txt K mg C) : ∃ f fd, FnOk P w K mg base CX0 4 f fd ["self", "at"] (spD K (dsp_Net_getitem C)) ∧ PySem.W.findIn K (.ref C) "__getitem__" = some (some (.ref f)) ∧ PySem.W.isFn K (.ref f) = true ∧ PySem.W.fnIn K f = true ∧ Binds K fd ["self", "at"] [] := by
  obtain ⟨f, fd, F, h1, h2, h3, b⟩ := T.i_getitem
  refine ⟨f, fd, fnD (dsp := dsp_Net_getitem C) F sc_Net_getitem (fun ds μ Q h => ?_) (fun cdv A outer s H E hr _ => ?_), h1, h2, h3, b⟩
  · obtain ⟨n, i, gs, g, rfl, _⟩ := h
    rfl
  · refine ⟨_, (pss_cons (ps_expr (C8.pe_c (c_check_position T) hr (by decide) rfl (pa_cons (pv 1) (pa_cons (pe_callB call_len_seq (by rfl) T.b_len (by decide +kernel) (pa_cons (pe_fld (pv 0) rfl) pa_nil)) pa_nil))))
      (pss_one (ps_ret (pe_ix ix_list (pe_fld (pv 0) rfl) (pv 1) (fun _ _ => rfl))))), ?_⟩
    dsimp only [cxOf, Cx.nox]
    refine ⟨_, inferInstance, fun ds μ Q h => ?_⟩
    obtain ⟨n, i, gs, g, rfl, hg, h⟩ := h
    have hi := (List.getElem?_eq_some_iff.mp hg).1
    refine ⟨_, rfl, _, rfl, C, _, _, _, .o, T.cl, T.nG, rfl, _, _, rfl, .l, i, _, rfl, by omega, by rw [List.length_map]; omega, ?_⟩
    exact ⟨_, rfl, C, _, _, _, .o, T.cl, T.nG, rfl, _, rfl, _, _, _, .l, rfl, atI_nat' (by rw [List.getElem?_map, hg]; rfl), .inl h⟩
def dsp_Net_neg (C : Addr) : DSp := fun ds μ Q => ∃ (n : Nat) (gs : List Gt), ds = [netD C n gs] ∧ NetOk n gs ∧ Q (netD C n (gs.map Gt.tn)) μ
theorem c_neg (T : Txt K mg C) : ∃ f fd, FnOk P w K mg base CX0 8 f fd ["self"] (spD K (dsp_Net_neg C)) ∧ PySem.W.findIn K (.ref C) "__neg__" = some (some (.ref f)) ∧ PySem.W.isFn K (.ref f) = true ∧ Binds K fd ["self"] [] := by
  obtain ⟨f, fd, F, h1, h2, b⟩ := T.i_neg
  refine ⟨f, fd, fnD (dsp := dsp_Net_neg C) F sc_Net_neg (fun ds μ Q h => ?_) (fun cdv A outer s H E hr _ => ?_), h1, h2, b⟩
  · obtain ⟨n, gs, rfl, _⟩ := h
    rfl
  · refine ⟨_, (pss_one (ps_ret (C8.pe_mk (c_Net T) hr (by decide) rfl (pa_cons (pe_fld (pv 0) rfl) (pa_cons (pe_lc (own := [("gate", 1)]) (g := (gName 1)) (tt := tYes) rfl sc_Net_neg.nd (pi_list (pe_fld (pv 0) rfl)) (blkOk_by (N := N_Net_neg) (sc := C8.fnScope s_Net_neg) (by decide +kernel)) (fun _ _ _ _ _ => (pg_name (i := 1) sc_Net_neg.nd rfl (Or.inl rfl))) (fun _ _ _ _ _ => pts_nil) (fun _ _ _ _ _ => (C8.pe_c (c_turned_gate T) hr (by decide) rfl (pa_cons (pv 1) pa_nil)))) pa_nil))))), ?_⟩
    dsimp only [cxOf, Cx.nox]
    refine ⟨_, inferInstance, fun ds μ Q h => ?_⟩
    obtain ⟨n, gs, rfl, ok, h⟩ := h
    refine ⟨_, rfl, C, _, _, _, .o, T.cl, T.nL, rfl, by decide, _, rfl, C, _, _, _, .o, T.cl, T.nG, rfl, _, _, .l, trivial, ?_⟩
    refine lcMap (ψ := fun g => g.tn.da) (by have := ok.few; omega) (fun _ _ => trivial) (fun i g μ' R hg _ r => ⟨_, rfl, g, rfl, r⟩) (.inl ?_)
    intro q hq
    refine ⟨q, _, n, gs.map Gt.tn, rfl, setM_at, .inl (by rw [List.map_map]; rfl), ok.tn, rfl, _, _, setM_at, .inl ?_⟩
    rw [setM_setM, remM_setM hq]
    exact .inl h
def dsp_Net_renumbered (C : Addr) : DSp := fun ds μ Q => ∃ (n : Nat) (gs : List Gt) (os : List Nat), ds = [netD C n gs, rowD (intsN os)] ∧ NetOk n gs ∧ IsOrd os n ∧ Q (netD C n (gs.map (Gt.mv os))) μ
theorem m_renumbered (T : Txt K mg C) : C8.Met P w K mg base 8 C "renumbered" (spD K (dsp_Net_renumbered C)) [] := by
  obtain ⟨f, fd, F, M, b⟩ := T.i_ren
  refine ⟨f, fd, _, [], T.cl, M, fnD (dsp := dsp_Net_renumbered C) F sc_Net_renumbered (fun ds μ Q h => ?_) (fun cdv A outer s H E hr _ => ?_), b, .nil⟩
  · obtain ⟨n, gs, os, rfl, _⟩ := h
    rfl
  · refine ⟨_, (pss_cons (ps_expr (C8.pe_c (c_check_order T) hr (by decide) rfl (pa_cons (pv 1) (pa_cons (pe_fld (pv 0) rfl) pa_nil))))
      (pss_one (ps_ret (C8.pe_mk (c_Net T) hr (by decide) rfl (pa_cons (pe_fld (pv 0) rfl) (pa_cons (pe_lc (own := [("gate", 2)]) (g := (gName 2)) (tt := tYes) rfl sc_Net_renumbered.nd (pi_list (pe_fld (pv 0) rfl)) (blkOk_by (N := N_Net_renumbered) (sc := C8.fnScope s_Net_renumbered) (by decide +kernel)) (fun _ _ _ _ _ => (pg_name (i := 2) sc_Net_renumbered.nd rfl (Or.inl rfl))) (fun _ _ _ _ _ => pts_nil) (fun _ _ _ _ _ => (C8.pe_c (c_gate_moved T) hr (by decide) rfl (pa_cons (pv 2) (pa_cons (pv 1) pa_nil))))) pa_nil)))))), ?_⟩
    dsimp only [cxOf, Cx.nox]
    refine ⟨_, inferInstance, fun ds μ Q h => ?_⟩
    obtain ⟨n, gs, os, rfl, ok, ho, h⟩ := h
    refine ⟨_, rfl, _, rfl, C, _, _, _, .o, T.cl, T.nL, rfl, os, n, rfl, ho, ok.high, ?_⟩
    refine ⟨_, rfl, C, _, _, _, .o, T.cl, T.nL, rfl, by decide, _, rfl, C, _, _, _, .o, T.cl, T.nG, rfl, _, _, .l, trivial, ?_⟩
    refine lcMap (ψ := fun g => (g.mv os).da) (by have := ok.few; omega) (fun _ _ => trivial) (fun i g μ' R hg _ r => ⟨_, rfl, _, rfl, g, os, rfl, by rw [ho.len]; exact ok.ok g (List.mem_of_getElem? hg), r⟩) (.inl ?_)
    intro q hq
    refine ⟨q, _, n, gs.map (Gt.mv os), rfl, setM_at, .inl (by rw [List.map_map]; rfl), ok.mv ho, rfl, _, _, setM_at, .inl ?_⟩
    rw [setM_setM, remM_setM hq]
    exact .inl h
def dsp_Net_wider (C : Addr) : DSp := fun ds μ Q => ∃ (n m : Nat) (gs : List Gt), ds = [netD C n gs, .i m] ∧ NetOk n gs ∧ n ≤ m ∧ m ≤ 12 ∧ Q (netD C m gs) μ
theorem m_wider (T : Txt K mg C) : C8.Met P w K mg base 8 C "wider" (spD K (dsp_Net_wider C)) [] := by
  obtain ⟨f, fd, F, M, b⟩ := T.i_wider
  refine ⟨f, fd, _, [], T.cl, M, fnD (dsp := dsp_Net_wider C) F sc_Net_wider (fun ds μ Q h => ?_) (fun cdv A outer s H E hr _ => ?_), b, .nil⟩
  · obtain ⟨n, m, gs, rfl, _⟩ := h
    rfl
  · refine ⟨_, (pss_cons (ps_expr (C8.pe_c (c_check_lanes T) hr (by decide) rfl (pa_cons (pv 1) (pa_cons (pe_fld (pv 0) rfl) pa_nil))))
      (pss_one (ps_ret (C8.pe_mk (c_Net T) hr (by decide) rfl (pa_cons (pv 1) (pa_cons (pe_fld (pv 0) rfl) pa_nil)))))), ?_⟩
    dsimp only [cxOf, Cx.nox]
    refine ⟨_, inferInstance, fun ds μ Q h => ?_⟩
    obtain ⟨n, m, gs, rfl, ok, h1, h2, h⟩ := h
    refine ⟨_, rfl, _, rfl, C, _, _, _, .o, T.cl, T.nL, rfl, m, n, rfl, by omega, by omega, ?_⟩
    refine ⟨_, rfl, _, rfl, C, _, _, _, .o, T.cl, T.nG, rfl, ?_⟩
    intro q hq
    refine ⟨q, _, m, gs, rfl, setM_at, .inl rfl, ok.wide h1 h2, rfl, _, _, setM_at, .inl ?_⟩
    rw [setM_setM, remM_setM hq]
    exact .inl h
end
end LL

set_option synthInstance.maxSize 100000
set_option synthInstance.maxHeartbeats 4000000
namespace LL
open PySem L2 PySem.Spec PyProof.Rows
theorem rgD_from (n m : Nat) : rgD (n : Int) m = (intsN (List.range' n m)).map Da.i := by
  unfold rgD intsN
  rw [List.range'_eq_map_range, List.map_map, List.map_map]
  exact List.map_congr_left fun i _ => congrArg Da.i (by show (n : Int) + i = ((n + i : Nat) : Int); omega)
theorem ord_from {n m i : Nat} (h : i < m) : ord (List.range' n m) i = n + i := by
  unfold ord
  rw [List.getD_eq_getElem?_getD, List.getElem?_range' (by omega)]
  show n + 1 * i = n + i
  omega
/-- a gate of m lanes, behind n others -/
def Gt.sh (n m : Nat) (g : Gt) : Gt := g.mv (List.range' n m)
theorem sh_ok {g : Gt} {n m : Nat} (h : g.ok m) : (g.sh n m).ok (n + m) := by
  have q : ∀ {i}, i < m → ord (List.range' n m) i < n + m := fun h => by rw [ord_from h]; omega
  have two : ∀ {i j}, i < m ∧ j < m ∧ i ≠ j → ord (List.range' n m) i < n + m ∧ ord (List.range' n m) j < n + m ∧ ord (List.range' n m) i ≠ ord (List.range' n m) j := fun ⟨a, b, c⟩ => ⟨q a, q b, by rw [ord_from a, ord_from b]; omega⟩
  cases g with
  | add i c => exact q h
  | low i j => exact two h
  | high i j => exact two h
  | sort i j => exact two h
  | copy i j => exact two h
theorem NetOk.sh {n m : Nat} {gs hs : List Gt} (h : NetOk n gs) (h' : NetOk m hs) (l : n + m ≤ 12) (f : gs.length + hs.length ≤ 400) : NetOk (n + m) (gs ++ hs.map (Gt.sh n m)) := ⟨by have := h.low; omega, l, fun g hg => by
  rcases List.mem_append.mp hg with hg | hg
  · exact (h.ok g hg).wide (by omega)
  · obtain ⟨g', h1, rfl⟩ := List.mem_map.mp hg
    exact sh_ok (h'.ok g' h1), by rw [List.length_append, List.length_map]; exact f⟩
section
variable {P : Program} {w : World} {K : PySem.W.Frag} {mg : Str → Option Value} {base : Heap} {C : Addr}
def dsp_Net_beside (C : Addr) : DSp := fun ds μ Q => ∃ (n m : Nat) (gs hs : List Gt), ds = [netD C n gs, netD C m hs] ∧ NetOk n gs ∧ NetOk m hs ∧ n + m ≤ 12 ∧ gs.length + hs.length ≤ 400 ∧ Q (netD C (n + m) (gs ++ hs.map (Gt.sh n m))) μ
theorem m_beside (T : Txt K mg C) : C8.Met P w K mg base 8 C "beside" (spD K (dsp_Net_beside C)) [] := by
  obtain ⟨f, fd, F, M, b⟩ := T.i_beside
  obtain ⟨uj, kj⟩ := T.cJ
  refine ⟨f, fd, _, [], T.cl, M, fnD (dsp := dsp_Net_beside C) F sc_Net_beside (fun ds μ Q h => ?_) (fun cdv A outer s H E hr _ => ?_), b, .nil⟩
  · obtain ⟨n, m, gs, hs, rfl, _⟩ := h
    rfl
  · refine ⟨_, (pss_cons (ps_if (pt_not (pt_val (pe_callB call_isi (by rfl) T.b_isinstance (by decide +kernel) (pa_cons (pv 1) (pa_cons (C8.pe_gc (v := .ref C) rfl ⟨_, T.mgC, rfl⟩) pa_nil)))))
       (pss_one ps_never)
       pss_nil)
      (pss_cons (ps_set (i := 2) sc_Net_beside.nd rfl (Or.inl rfl) (pe_op op_add (pe_fld (pv 0) rfl) (pe_fld (pv 1) rfl)))
      (pss_cons (ps_if (pt_cmpR op_gt (pv 2) (pe_con (pv 0) rfl) (nomark _))
       (pss_one ps_never)
       pss_nil)
      (pss_cons (ps_set (i := 3) sc_Net_beside.nd rfl (Or.inr rfl) (pe_listRg rfl (by rfl) T.b_list (prg_2 (by rfl) T.b_range (pe_fld (pv 0) rfl) (pv 2))))
      (pss_one (ps_ret (C8.pe_mk (c_Net T) hr (by decide) rfl (pa_cons (pv 2) (pa_cons (pe_op op_cat (pe_fld (pv 0) rfl) (pe_lc (own := [("gate", 4)]) (g := (gName 4)) (tt := tYes) rfl sc_Net_beside.nd (pi_list (pe_fld (pv 1) rfl)) (blkOk_by (N := N_Net_beside) (sc := C8.fnScope s_Net_beside) (by decide +kernel)) (fun _ _ _ _ _ => (pg_name (i := 4) sc_Net_beside.nd rfl (Or.inl rfl))) (fun _ _ _ _ _ => pts_nil) (fun _ _ _ _ _ => (C8.pe_c (c_gate_moved T) hr (by decide) rfl (pa_cons (pv 4) (pa_cons (pv 3) pa_nil)))))) pa_nil))))))))), ?_⟩
    dsimp only [cxOf, Cx.nox]
    refine ⟨_, inferInstance, fun ds μ Q h => ?_⟩
    obtain ⟨n, m, gs, hs, rfl, ok, ok', l, f, h⟩ := h
    refine ⟨_, rfl, .inl ⟨_, _, _, _, true, rfl, .own C, .ins .o T.cl T.q_ha T.q_hn T.q_ht T.q_hm, if_pos (by simp), true, rfl, ?_⟩⟩
    show if (!true) = true then _ else _
    rw [if_neg (by decide)]
    refine ⟨_, rfl, C, _, _, _, .o, T.cl, T.nL, rfl, _, rfl, C, _, _, _, .o, T.cl, T.nL, rfl, _, _, rfl, rfl, ?_⟩
    have e' : (fun i j : Int => V.int (i + j)) (n : Int) (m : Int) = V.int ((n + m : Nat) : Int) := congrArg V.int (by show (n : Int) + m = ((n + m : Nat) : Int); omega)
    rw [e']
    refine ⟨_, rfl, _, rfl, C, _, _, _, _, .o, T.cl, kj, (by simp [ofStr_eq]), _, _, rfl, rfl, _, rfl, ?_⟩
    rw [decide_eq_false (by omega : ¬ (12 : Int) < ((n + m : Nat) : Int))]
    show (if false = true then _ else _)
    rw [if_neg Bool.false_ne_true]
    refine ⟨_, rfl, C, _, _, _, .o, T.cl, T.nL, rfl, _, rfl, n, (n + m : Nat), rfl, rfl, by omega, by omega, by omega, by omega, .inl ?_⟩
    have e2 : (((n + m : Nat) : Int) - (n : Int)).toNat = m := by omega
    rw [e2, rgD_from]
    refine ⟨_, rfl, _, rfl, C, _, _, _, .o, T.cl, T.nG, rfl, by decide, _, rfl, C, _, _, _, .o, T.cl, T.nG, rfl, _, _, .l, trivial, ?_⟩
    refine lcMap (ψ := fun g => (g.sh n m).da) (by have := ok'.few; omega) (fun _ _ => trivial) (fun i g μ' R hg _ r => ⟨_, rfl, _, rfl, g, List.range' n m, rfl, by rw [List.length_range']; exact ok'.ok g (List.mem_of_getElem? hg), r⟩) (.inl ?_)
    refine ⟨_, _, .inl rfl, .inl rfl, by rw [List.length_map, List.length_map]; exact Nat.le_trans f (by decide), .inl ?_⟩
    intro q hq
    refine ⟨q, _, n + m, gs ++ hs.map (Gt.sh n m), rfl, setM_at, .inl (by rw [List.map_append, List.map_map]; rfl), ok.sh ok' l f, rfl, _, _, setM_at, .inl ?_⟩
    rw [setM_setM, remM_setM hq]
    exact .inl h
def dsp_Net_with_gate (C : Addr) : DSp := fun ds μ Q => ∃ (n i : Nat) (gs : List Gt) (g : Gt), ds = [netD C n gs, .i i, g.da] ∧ NetOk n gs ∧ i ≤ gs.length ∧ g.ok n ∧ gs.length ≤ 399 ∧ Q (netD C n (gs.take i ++ [g] ++ gs.drop i)) μ
theorem m_with_gate (T : Txt K mg C) : C8.Met P w K mg base 8 C "with_gate" (spD K (dsp_Net_with_gate C)) [] := by
  obtain ⟨f, fd, F, M, b⟩ := T.i_with
  refine ⟨f, fd, _, [], T.cl, M, fnD (dsp := dsp_Net_with_gate C) F sc_Net_with_gate (fun ds μ Q h => ?_) (fun cdv A outer s H E hr _ => ?_), b, .nil⟩
  · obtain ⟨n, i, gs, g, rfl, _⟩ := h
    rfl
  · refine ⟨_, (pss_cons (ps_expr (C8.pe_c (c_check_position T) hr (by decide) rfl (pa_cons (pv 1) (pa_cons (pe_op op_add (pe_callB call_len_seq (by rfl) T.b_len (by decide +kernel) (pa_cons (pe_fld (pv 0) rfl) pa_nil)) pe_int) pa_nil))))
      (pss_cons (ps_if (pt_not (pt_val (C8.pe_c (c_is_gate T) hr (by decide) rfl (pa_cons (pv 2) (pa_cons (pe_fld (pv 0) rfl) pa_nil)))))
       (pss_one ps_never)
       pss_nil)
      (pss_one (ps_ret (C8.pe_mk (c_Net T) hr (by decide) rfl (pa_cons (pe_fld (pv 0) rfl) (pa_cons (pe_op op_cat (pe_op op_cat (pe_slice sl_list (pe_fld (pv 0) rfl) po_none (po_some (pv 1))) (pe_lst (pa_cons (pv 2) pa_nil))) (pe_slice sl_list (pe_fld (pv 0) rfl) (po_some (pv 1)) po_none)) pa_nil))))))), ?_⟩
    dsimp only [cxOf, Cx.nox]
    refine ⟨_, inferInstance, fun ds μ Q h => ?_⟩
    obtain ⟨n, i, gs, g, rfl, ok, hi, hg, hf, h⟩ := h
    have lm : (gs.map Gt.da).length = gs.length := List.length_map ..
    refine ⟨_, rfl, _, rfl, C, _, _, _, .o, T.cl, T.nG, rfl, _, _, rfl, .l, _, _, rfl, rfl, _, _, rfl, by omega, by omega, ?_⟩
    refine ⟨_, rfl, _, rfl, C, _, _, _, .o, T.cl, T.nL, rfl, g, n, rfl, hg, true, rfl, ?_⟩
    show if (!true) = true then _ else _
    rw [if_neg (by decide)]
    refine ⟨_, rfl, C, _, _, _, .o, T.cl, T.nL, rfl, _, rfl, C, _, _, _, .o, T.cl, T.nG, rfl, _, rfl, _, rfl, _, .l, .inl ?_⟩
    rw [cutD_take (by omega), ← List.map_take]
    refine ⟨_, rfl, (by show 1 ≤ sizeLine; decide), .inl ⟨_, _, .inl rfl, .inl rfl, Nat.le_trans (by rw [List.length_map, List.length_take]; show min i gs.length + 1 ≤ 1000; omega) (by decide), .inl ?_⟩⟩
    refine ⟨_, rfl, C, _, _, _, .o, T.cl, T.nG, rfl, _, rfl, _, rfl, _, .l, .inl ?_⟩
    rw [cutD_drop (by omega), ← List.map_drop]
    refine ⟨_, _, .inl rfl, .inl rfl, Nat.le_trans (by rw [List.length_append, List.length_map, List.length_map, List.length_take, List.length_drop]; show min i gs.length + 1 + (gs.length - i) ≤ 1000; omega) (by decide), .inl ?_⟩
    have ok2 : NetOk n (gs.take i ++ [g] ++ gs.drop i) := ⟨ok.low, ok.high, fun x hx => by
      rcases List.mem_append.mp hx with hx | hx
      · rcases List.mem_append.mp hx with hx | hx
        · exact ok.take.ok x hx
        · rw [List.mem_singleton.mp hx]; exact hg
      · exact ok.drop.ok x hx, by rw [List.length_append, List.length_append, List.length_take, List.length_drop]; show min i gs.length + 1 + (gs.length - i) ≤ 400; omega⟩
    intro q hq
    refine ⟨q, _, n, gs.take i ++ [g] ++ gs.drop i, rfl, setM_at, .inl (by rw [List.map_append, List.map_append]; rfl), ok2, rfl, _, _, setM_at, .inl ?_⟩
    rw [setM_setM, remM_setM hq]
    exact .inl h
def dsp_Net_without (C : Addr) : DSp := fun ds μ Q => ∃ (n i : Nat) (gs : List Gt), ds = [netD C n gs, .i i] ∧ NetOk n gs ∧ i < gs.length ∧ Q (netD C n (gs.take i ++ gs.drop (i + 1))) μ
theorem m_without (T : Txt K mg C) : C8.Met P w K mg base 8 C "without" (spD K (dsp_Net_without C)) [] := by
  obtain ⟨f, fd, F, M, b⟩ := T.i_without
  refine ⟨f, fd, _, [], T.cl, M, fnD (dsp := dsp_Net_without C) F sc_Net_without (fun ds μ Q h => ?_) (fun cdv A outer s H E hr _ => ?_), b, .nil⟩
  · obtain ⟨n, i, gs, rfl, _⟩ := h
    rfl
  · refine ⟨_, (pss_cons (ps_expr (C8.pe_c (c_check_position T) hr (by decide) rfl (pa_cons (pv 1) (pa_cons (pe_callB call_len_seq (by rfl) T.b_len (by decide +kernel) (pa_cons (pe_fld (pv 0) rfl) pa_nil)) pa_nil))))
      (pss_one (ps_ret (C8.pe_mk (c_Net T) hr (by decide) rfl (pa_cons (pe_fld (pv 0) rfl) (pa_cons (pe_op op_cat (pe_slice sl_list (pe_fld (pv 0) rfl) po_none (po_some (pv 1))) (pe_slice sl_list (pe_fld (pv 0) rfl) (po_some (pe_op op_add (pv 1) pe_int)) po_none)) pa_nil)))))), ?_⟩
    dsimp only [cxOf, Cx.nox]
    refine ⟨_, inferInstance, fun ds μ Q h => ?_⟩
    obtain ⟨n, i, gs, rfl, ok, hi, h⟩ := h
    have lm : (gs.map Gt.da).length = gs.length := List.length_map ..
    refine ⟨_, rfl, _, rfl, C, _, _, _, .o, T.cl, T.nG, rfl, _, _, rfl, .l, _, _, rfl, by omega, by omega, ?_⟩
    refine ⟨_, rfl, C, _, _, _, .o, T.cl, T.nL, rfl, _, rfl, C, _, _, _, .o, T.cl, T.nG, rfl, _, rfl, _, rfl, _, .l, .inl ?_⟩
    rw [cutD_take (by omega), ← List.map_take]
    refine ⟨_, rfl, C, _, _, _, .o, T.cl, T.nG, rfl, _, rfl, _, _, rfl, rfl, _, rfl, _, .l, .inl ?_⟩
    have e1 : ((i : Int) + 1) = ((i + 1 : Nat) : Int) := by omega
    rw [e1, cutD_drop (by omega), ← List.map_drop]
    have few := ok.few
    have l2 : (gs.take i).length + (gs.drop (i + 1)).length ≤ 400 := by rw [List.length_take, List.length_drop]; omega
    refine ⟨_, _, .inl rfl, .inl rfl, Nat.le_trans (by rw [List.length_map, List.length_map]; exact l2) (by decide), .inl ?_⟩
    intro q hq
    refine ⟨q, _, n, gs.take i ++ gs.drop (i + 1), rfl, setM_at, .inl (by rw [List.map_append]), ok.take.app ok.drop l2, rfl, _, _, setM_at, .inl ?_⟩
    rw [setM_setM, remM_setM hq]
    exact .inl h
def dsp_Net_exchanged (C : Addr) : DSp := fun ds μ Q => ∃ (n i : Nat) (gs : List Gt) (g g' : Gt), ds = [netD C n gs, .i i] ∧ NetOk n gs ∧ gs[i]? = some g ∧ gs[i + 1]? = some g' ∧ Q (netD C n (gs.take i ++ [g', g] ++ gs.drop (i + 2))) μ
theorem m_exchanged (T : Txt K mg C) : C8.Met P w K mg base 8 C "exchanged" (spD K (dsp_Net_exchanged C)) [] := by
  obtain ⟨f, fd, F, M, b⟩ := T.i_exchanged
  refine ⟨f, fd, _, [], T.cl, M, fnD (dsp := dsp_Net_exchanged C) F sc_Net_exchanged (fun ds μ Q h => ?_) (fun cdv A outer s H E hr _ => ?_), b, .nil⟩
  · obtain ⟨n, i, gs, g, g', rfl, _⟩ := h
    rfl
  · refine ⟨_, (pss_cons (ps_expr (C8.pe_c (c_check_position T) hr (by decide) rfl (pa_cons (pv 1) (pa_cons (pe_op op_sub (pe_callB call_len_seq (by rfl) T.b_len (by decide +kernel) (pa_cons (pe_fld (pv 0) rfl) pa_nil)) pe_int) pa_nil))))
      (pss_cons (ps_par (i := 2) (j := 3) (by rfl) sc_Net_exchanged.nd rfl rfl (by decide) rfl rfl (pa_cons (pe_slice sl_list (pe_fld (pv 0) rfl) po_none (po_some (pv 1))) (pa_cons (pe_slice sl_list (pe_fld (pv 0) rfl) (po_some (pe_op op_add (pv 1) pe_int)) po_none) pa_nil)) (by rfl))
      (pss_one (ps_ret (C8.pe_mk (c_Net T) hr (by decide) rfl (pa_cons (pe_fld (pv 0) rfl) (pa_cons (pe_op op_cat (pe_op op_cat (pv 2) (pe_lst (pa_cons (pe_ix ix_list (pe_fld (pv 0) rfl) (pe_op op_add (pv 1) pe_int) (fun _ _ => rfl)) (pa_cons (pe_ix ix_list (pe_fld (pv 0) rfl) (pv 1) (fun _ _ => rfl)) pa_nil)))) (pv 3)) pa_nil))))))), ?_⟩
    dsimp only [cxOf, Cx.nox]
    refine ⟨_, inferInstance, fun ds μ Q h => ?_⟩
    obtain ⟨n, i, gs, g, g', rfl, ok, hg, hg', h⟩ := h
    have lm : (gs.map Gt.da).length = gs.length := List.length_map ..
    have few := ok.few
    have hi := (List.getElem?_eq_some_iff.mp hg').1
    refine ⟨_, rfl, _, rfl, C, _, _, _, .o, T.cl, T.nG, rfl, _, _, rfl, .l, _, _, rfl, rfl, _, _, rfl, by omega, by omega, ?_⟩
    refine ⟨_, rfl, C, _, _, _, .o, T.cl, T.nG, rfl, _, rfl, _, rfl, _, .l, .inl ?_⟩
    rw [cutD_take (by omega), ← List.map_take]
    refine ⟨_, rfl, C, _, _, _, .o, T.cl, T.nG, rfl, _, rfl, _, _, rfl, rfl, _, rfl, _, .l, .inl ?_⟩
    have e1 : ((i : Int) + 2) = ((i + 2 : Nat) : Int) := by omega
    rw [e1, cutD_drop (by omega), ← List.map_drop]
    refine ⟨_, _, rfl, ?_⟩
    have e2 : ((i : Int) + 1) = ((i + 1 : Nat) : Int) := by omega
    refine ⟨_, rfl, C, _, _, _, .o, T.cl, T.nL, rfl, _, rfl, _, rfl, C, _, _, _, .o, T.cl, T.nG, rfl, _, rfl, _, _, rfl, rfl, _, _, _, .l, rfl, (by rw [e2]; exact atI_nat' (by rw [List.getElem?_map, hg']; rfl)), ?_⟩
    refine ⟨_, rfl, C, _, _, _, .o, T.cl, T.nG, rfl, _, rfl, _, _, _, .l, rfl, atI_nat' (by rw [List.getElem?_map, hg]; rfl), (by show 2 ≤ sizeLine; decide), .inl ?_⟩
    refine ⟨_, _, .inl rfl, .inl rfl, Nat.le_trans (by rw [List.length_map, List.length_take]; show min i gs.length + 2 ≤ 1000; omega) (by decide), .inl ?_⟩
    refine ⟨_, rfl, _, _, .inl rfl, .inl rfl, Nat.le_trans (by rw [List.length_append, List.length_map, List.length_map, List.length_take, List.length_drop]; show min i gs.length + 2 + (gs.length - (i + 2)) ≤ 1000; omega) (by decide), .inl ?_⟩
    have ok2 : NetOk n (gs.take i ++ [g', g] ++ gs.drop (i + 2)) := ⟨ok.low, ok.high, fun x hx => by
      rcases List.mem_append.mp hx with hx | hx
      · rcases List.mem_append.mp hx with hx | hx
        · exact ok.take.ok x hx
        · simp only [List.mem_cons, List.not_mem_nil, or_false] at hx
          rcases hx with rfl | rfl
          · exact ok.ok _ (List.mem_of_getElem? hg')
          · exact ok.ok _ (List.mem_of_getElem? hg)
      · exact ok.drop.ok x hx, by rw [List.length_append, List.length_append, List.length_take, List.length_drop]; show min i gs.length + 2 + (gs.length - (i + 2)) ≤ 400; omega⟩
    intro q hq
    refine ⟨q, _, n, gs.take i ++ [g', g] ++ gs.drop (i + 2), rfl, setM_at, .inl (by rw [List.map_append, List.map_append]; rfl), ok2, rfl, _, _, setM_at, .inl ?_⟩
    rw [setM_setM, remM_setM hq]
    exact .inl h
end
end LL

set_option synthInstance.maxSize 100000
set_option synthInstance.maxHeartbeats 4000000
namespace LL
open PySem L2 PySem.Spec PyProof.Rows
/-- beside the pot all that was known stays -/
def Mf (a : Addr) (μ μ' : Mu) : Prop := ∀ b c, b ≠ a → μ b = some c → μ' b = some c
theorem Mf.refl {a : Addr} {μ : Mu} : Mf a μ μ := fun _ _ _ h => h
theorem Mf.trans {a : Addr} {μ μ1 μ2 : Mu} (h : Mf a μ μ1) (h' : Mf a μ1 μ2) : Mf a μ μ2 := fun b c n e => h' b c n (h b c n e)
theorem Fr.mf {a : Addr} {μ μ' : Mu} (h : Fr a μ μ') : Mf a μ μ' := fun b c n e => by rw [h b n]; exact e
theorem Mf.new {a p : Addr} {μ : Mu} {c : Cell} (h : μ p = none) : Mf a μ (setM μ p c) := fun b c' _ e => by rw [setM_ne (fun z => by rw [z, h] at e; cases e)]; exact e
theorem out_permD : ∀ (os : List Nat) (k : Nat) (h : k < os.length), (os[k] :: os.eraseIdx k).Perm os
  | [], _, h => absurd h (by simp)
  | _ :: _, 0, _ => List.Perm.refl _
  | o :: os, k + 1, h => ((List.Perm.swap o _ _)).trans ((out_permD os k (Nat.lt_of_succ_lt_succ h)).cons o)
theorem erase_map {α β : Type} {f : α → β} : ∀ {l : List α} {k : Nat}, (l.map f).eraseIdx k = (l.eraseIdx k).map f
  | [], _ => by simp
  | _ :: _, 0 => rfl
  | x :: l, k + 1 => congrArg (f x :: ·) (erase_map (l := l) (k := k))
section
variable {P : Program} {w : World} {K : PySem.W.Frag} {mg : Str → Option Value} {base : Heap} {C : Addr}
def dsp_law_mixed : DSp := fun ds μ Q => ∃ (a : Addr) (n : Nat), ds = [.r a, rowD (intsN (List.range n))] ∧ Pt a μ ∧ n ≤ 12 ∧ ∀ os μ', Mf a μ μ' → Pt a μ' → IsOrd os n → Q (rowD (intsN os)) μ'
theorem c_law_mixed (T : Txt K mg C) : C8.Cal P w K mg base 2 "_law_mixed" (spD K dsp_law_mixed) [] := by
  obtain ⟨f, fd, D, b⟩ := T.d_law_mixed
  refine ⟨f, fd, _, [], fnD (dsp := dsp_law_mixed) D.fn sc_law_mixed (fun ds μ Q h => ?_) (fun cdv A outer s H E hr _ => ?_), D.mgf, D.kp, b, .nil⟩
  · obtain ⟨a, n, rfl, _⟩ := h
    rfl
  · refine ⟨_, (pss_cons (ps_set (i := 2) sc_law_mixed.nd rfl (Or.inr rfl) (pe_callTy call_list_of (by rfl) T.b_list (by decide +kernel) (pa_cons (pv 1) pa_nil)))
      (pss_one (ps_ret (pe_lc (own := [("_law_turn", 3)]) (g := (gName 3)) (tt := tYes) (te := (tBM K "list" rPopAt (tVar 2) (tCons (tCall (spD K dsp_law_draw) [] C8.E0 (tCons (tVar 0) (tCons (tCB (fun xs H Q => ∃ p ys, xs = [V.ref p] ∧ (SqL K H p ys ∨ SqT K H p ys) ∧ Q (.int (ys.length : Nat)) H) (tCons (tVar 2) tNil)) tNil))) tNil))) rfl sc_law_mixed.nd (pi_range1 rfl T.b_range (pa_cons (pe_callB call_len_seq (by rfl) T.b_len (by decide +kernel) (pa_cons (pv 1) pa_nil)) pa_nil)) (blkOk_by (N := N_law_mixed) (sc := C8.fnScope s_law_mixed) (by decide +kernel)) (fun _ _ _ _ _ => (pg_name (i := 3) sc_law_mixed.nd rfl (Or.inl rfl))) (fun _ _ _ _ _ => pts_nil) (fun _ _ _ _ _ => (pe_bm PySem.F.plainAttrs_list PySem.F.slot_list_pop PySem.F.type_list_pop mt_popAt (pv 2) (pa_cons (C8.pe_c (c_law_draw T) hr (by decide) rfl (pa_cons (pv 0) (pa_cons (pe_callB call_len_seq (by rfl) T.b_len (by decide +kernel) (pa_cons (pv 2) pa_nil)) pa_nil))) pa_nil))))))), ?_⟩
    dsimp only [cxOf, Cx.nox]
    refine ⟨_, inferInstance, fun ds μ Q h => ?_⟩
    obtain ⟨a, n, rfl, pt, hn, h⟩ := h
    have lenR : (intsN (List.range n)).length = n := by rw [intsN_len, List.length_range]
    refine ⟨_, rfl, _, _, rfl, .l, .inr fun p hp => ?_⟩
    have pa : p ≠ a := pt.ne hp
    refine ⟨by decide, _, rfl, _, _, rfl, .l, n, (by rw [List.length_map, lenR]), by omega, by omega, ?_⟩
    rw [Int.toNat_natCast]
    intro r hr
    have ra : r ≠ a := (pt.setM (c := .ml ((intsN (List.range n)).map Da.i)) pa).ne hr
    have rp : r ≠ p := fun z => by rw [z, setM_at] at hr; cases hr
    rw [setM_ne rp] at hr
    refine ⟨fun i μ' => ∃ acc left : List Nat, μ' r = some (.ml ((intsN acc).map Da.i)) ∧ μ' p = some (.ml ((intsN left).map Da.i)) ∧ acc.length = i ∧ left.length = n - i ∧ (acc ++ left).Perm (List.range n) ∧ Pt a μ' ∧ ∀ b c, b ≠ a → μ b = some c → μ' b = some c, ⟨[], List.range n, setM_at, by rw [setM_ne rp.symm, setM_at], rfl, by rw [List.length_range]; omega, List.Perm.refl _, (pt.setM pa).setM ra, fun b c ba hb => ?_⟩, fun _ _ _ _ => trivial, fun i x μ' hx z => ?_, fun μ' z => ?_⟩
    · rw [setM_ne (fun z => by rw [z, hr] at hb; cases hb), setM_ne (fun z => by rw [z, hp] at hb; cases hb)]
      exact hb
    · obtain ⟨acc, left, hr1, hp1, l1, l2, pm, pt1, m1⟩ := z
      have hi := (List.getElem?_eq_some_iff.mp hx).1
      rw [rgD_length] at hi
      refine ⟨_, rfl, ⟨_, .inr ⟨p, rfl, hp1⟩⟩, _, rfl, _, rfl, _, _, rfl, .inl (.c hp1), a, (left.length : Int), (by rw [List.length_map, intsN_len]), pt1, by omega, by omega, fun d μ2 f2 pt2 d0 d1 => ?_⟩
      obtain ⟨k, rfl⟩ := Int.eq_ofNat_of_zero_le d0
      have hk : k < left.length := by omega
      have hp2 : μ2 p = some (.ml ((intsN left).map Da.i)) := by rw [f2 p pa]; exact hp1
      have hr2 : μ2 r = some (.ml ((intsN acc).map Da.i)) := by rw [f2 r ra]; exact hr1
      refine ⟨p, _, k, .i ((left[k] : Nat) : Int), rfl, rfl, hp2, ?_, ?_, ?_⟩
      · rw [List.getElem?_map, List.getElem?_map, List.getElem?_eq_getElem hk]
        rfl
      · rw [List.length_map, intsN_len]
        omega
      · refine ⟨_, by rw [setM_ne rp]; exact hr2, ?_, acc ++ [left[k]], left.eraseIdx k, ?_, ?_, ?_, ?_, ?_, ?_, ?_⟩
        · rw [List.length_map, intsN_len]
          exact Nat.lt_of_lt_of_le (by omega : acc.length < 100000) (by decide)
        · rw [setM_at]
          unfold intsN
          rw [List.map_append, List.map_append]
          rfl
        · rw [setM_ne rp.symm, setM_at]
          unfold intsN
          rw [erase_map, erase_map]
        · rw [List.length_append, l1]
          rfl
        · rw [List.length_eraseIdx, if_pos hk]
          omega
        · rw [List.append_assoc]
          exact ((out_permD left k hk).append_left acc).trans pm
        · exact (pt2.setM pa).setM ra
        · intro b c ba hb
          rw [setM_ne (fun z => by rw [z, hr] at hb; cases hb), setM_ne (fun z => by rw [z, hp] at hb; cases hb), f2 b ba]
          exact m1 b c ba hb
    · obtain ⟨acc, left, hr1, hp1, l1, l2, pm, pt1, m1⟩ := z
      rw [rgD_length] at l1 l2
      have e : left = [] := List.length_eq_zero_iff.mp (by omega)
      rw [e, List.append_nil] at pm
      refine ⟨_, hr1, .inl (.inl (h acc _ (fun b c ba hb => ?_) (pt1.remM ra) pm))⟩
      rw [remM_ne (fun z => by rw [z, hr] at hb; cases hb)]
      exact m1 b c ba hb
end
end LL

namespace LL
open PySem L2 PySem.Spec PyProof.Rows
theorem runs_app (gs hs : List Gt) (ns : List Int) : runs (gs ++ hs) ns = runs hs (runs gs ns) := List.foldl_append ..
theorem at0_left {ns ms : List Int} {i : Nat} (h : i < ns.length) : at0 (ns ++ ms) i = at0 ns i := by
  unfold at0
  rw [List.getD_eq_getElem?_getD, List.getD_eq_getElem?_getD, List.getElem?_append_left h]
theorem at0_right {ns ms : List Int} {i : Nat} : at0 (ns ++ ms) (ns.length + i) = at0 ms i := by
  unfold at0
  rw [List.getD_eq_getElem?_getD, List.getD_eq_getElem?_getD, List.getElem?_append_right (by omega), Nat.add_sub_cancel_left]
theorem set_left {ns ms : List Int} {i : Nat} {z : Int} (h : i < ns.length) : (ns ++ ms).set i z = ns.set i z ++ ms := by
  rw [List.set_append, if_pos h]
theorem set_right {ns ms : List Int} {i : Nat} {z : Int} : (ns ++ ms).set (ns.length + i) z = ns ++ ms.set i z := by
  rw [List.set_append, if_neg (by omega), Nat.add_sub_cancel_left]
theorem done_left {g : Gt} {ns ms : List Int} (h : g.ok ns.length) : g.done (ns ++ ms) = g.done ns ++ ms := by
  cases g with
  | add i c =>
    have h : i < ns.length := h
    simp only [Gt.done]
    rw [at0_left h, set_left h]
  | copy i j => 
    simp only [Gt.done]
    rw [at0_left h.2.1, set_left h.1]
  | low i j => 
    simp only [Gt.done]
    rw [at0_left h.1, at0_left h.2.1, set_left h.1]
  | high i j => 
    simp only [Gt.done]
    rw [at0_left h.1, at0_left h.2.1, set_left h.1]
  | sort i j => 
    simp only [Gt.done]
    rw [at0_left h.1, at0_left h.2.1, set_left h.1, set_left (by rw [List.length_set]; exact h.2.1)]
theorem done_right {g : Gt} {ns ms : List Int} (h : g.ok ms.length) : (g.sh ns.length ms.length).done (ns ++ ms) = ns ++ g.done ms := by
  cases g with
  | add i c =>
    have h : i < ms.length := h
    show (ns ++ ms).set (ord _ i) (at0 (ns ++ ms) (ord _ i) + c) = _
    rw [ord_from h, at0_right, set_right]
    rfl
  | copy i j =>
    show (ns ++ ms).set (ord _ i) (at0 (ns ++ ms) (ord _ j)) = _
    rw [ord_from h.1, ord_from h.2.1, at0_right, set_right]
    rfl
  | low i j =>
    show (ns ++ ms).set (ord _ i) (mn (at0 (ns ++ ms) (ord _ i)) (at0 (ns ++ ms) (ord _ j))) = _
    rw [ord_from h.1, ord_from h.2.1, at0_right, at0_right, set_right]
    rfl
  | high i j =>
    show (ns ++ ms).set (ord _ i) (mx (at0 (ns ++ ms) (ord _ i)) (at0 (ns ++ ms) (ord _ j))) = _
    rw [ord_from h.1, ord_from h.2.1, at0_right, at0_right, set_right]
    rfl
  | sort i j =>
    show ((ns ++ ms).set (ord _ i) (mn (at0 (ns ++ ms) (ord _ i)) (at0 (ns ++ ms) (ord _ j)))).set (ord _ j) (mx (at0 (ns ++ ms) (ord _ i)) (at0 (ns ++ ms) (ord _ j))) = _
    rw [ord_from h.1, ord_from h.2.1, at0_right, at0_right, set_right, set_right]
    rfl
theorem runs_left : ∀ {gs : List Gt} {ns ms : List Int}, (∀ g ∈ gs, g.ok ns.length) → runs gs (ns ++ ms) = runs gs ns ++ ms
  | [], _, _, _ => rfl
  | g :: r, ns, ms, h => by
    show runs r (g.done (ns ++ ms)) = runs r (g.done ns) ++ ms
    rw [done_left (h g List.mem_cons_self)]
    exact runs_left fun x hx => by rw [done_length]; exact h x (List.mem_cons_of_mem _ hx)
theorem runs_right : ∀ {hs : List Gt} {ns ms : List Int}, (∀ g ∈ hs, g.ok ms.length) → runs (hs.map (Gt.sh ns.length ms.length)) (ns ++ ms) = ns ++ runs hs ms
  | [], _, _, _ => rfl
  | g :: r, ns, ms, h => by
    show runs (r.map (Gt.sh ns.length ms.length)) ((g.sh ns.length ms.length).done (ns ++ ms)) = ns ++ runs r (g.done ms)
    rw [done_right (h g List.mem_cons_self)]
    have q := runs_right (hs := r) (ns := ns) (ms := g.done ms) fun x hx => by rw [done_length]; exact h x (List.mem_cons_of_mem _ hx)
    rw [done_length] at q
    exact q
theorem runs_beside {gs hs : List Gt} {ns ms : List Int} {n m : Nat} (hn : ns.length = n) (hm : ms.length = m) (h : ∀ g ∈ gs, g.ok n) (h' : ∀ g ∈ hs, g.ok m) : runs (gs ++ hs.map (Gt.sh n m)) (ns ++ ms) = runs gs ns ++ runs hs ms := by
  subst hn hm
  rw [runs_app, runs_left h]
  have q := runs_right (hs := hs) (ns := runs gs ns) (ms := ms) h'
  rw [runs_length] at q
  exact q
/-- turned about, moved -/
theorem runs_tn : ∀ {gs : List Gt} {ns : List Int}, (∀ g ∈ gs, g.ok ns.length) → runs (gs.map Gt.tn) (turnedL ns) = turnedL (runs gs ns)
  | [], _, _ => rfl
  | g :: r, ns, h => by
    show runs (r.map Gt.tn) (g.tn.done (turnedL ns)) = turnedL (runs r (g.done ns))
    rw [done_turned (h g List.mem_cons_self)]
    exact runs_tn fun x hx => by rw [done_length]; exact h x (List.mem_cons_of_mem _ hx)
theorem runs_raised : ∀ {gs : List Gt} {ns : List Int} {z : Int}, (∀ g ∈ gs, g.ok ns.length) → runs gs (raisedL ns z) = raisedL (runs gs ns) z
  | [], _, _, _ => rfl
  | g :: r, ns, z, h => by
    show runs r (g.done (raisedL ns z)) = raisedL (runs r (g.done ns)) z
    rw [done_raised (h g List.mem_cons_self)]
    exact runs_raised fun x hx => by rw [done_length]; exact h x (List.mem_cons_of_mem _ hx)
theorem tn_tn (g : Gt) : g.tn.tn = g := by cases g <;> simp [Gt.tn]
theorem tn_mv {g : Gt} {os : List Nat} : (g.mv os).tn = g.tn.mv os := by cases g <;> rfl
theorem turned_turned (ns : List Int) : turnedL (turnedL ns) = ns := by
  unfold turnedL
  rw [List.map_map]
  exact (List.map_congr_left fun x _ => Int.neg_neg x).trans (List.map_id _)
end LL

set_option synthInstance.maxSize 100000
set_option synthInstance.maxHeartbeats 4000000
namespace LL
open PySem L2 PySem.Spec PyProof.Rows
section
variable {P : Program} {w : World} {K : PySem.W.Frag} {mg : Str → Option Value} {base : Heap} {C : Addr}
theorem c_call3 (T : Txt K mg C) : ∃ g, StX.CallO K C g ∧ FnR P w K mg base CX0 5 g (spD K (dsp_Net_call C)) := c_call T
def dsp_law_behind_right (C : Addr) : DSp := fun ds μ Q => ∃ (n : Nat) (gs hs : List Gt) (ns : List Int), ds = [netD C n gs, netD C n hs, rowD ns] ∧ NetOk n gs ∧ NetOk n hs ∧ gs.length ≤ 15 ∧ hs.length ≤ 15 ∧ ns.length = n ∧ Q (.b true) μ
theorem c_law_behind_right (T : Txt K mg C) : C8.Cal P w K mg base 10 "_law_behind_right" (spD K (dsp_law_behind_right C)) [] := by
  obtain ⟨f, fd, D, b⟩ := T.d_law_behind_right
  obtain ⟨g, cO, cF⟩ := c_call (P := P) (w := w) (base := base) T
  obtain ⟨ag, ad, aF, aS, aI, aB⟩ := c_add (P := P) (w := w) (base := base) T
  obtain ⟨mf, md, mF, mS, mI, mB⟩ := c_mul (P := P) (w := w) (base := base) T
  obtain ⟨eg, ed, eF, eS, eI, eB⟩ := c_eq (P := P) (w := w) (base := base) T
  obtain ⟨fo, mH1⟩ := T.o_int1
  obtain ⟨ro, mH2⟩ := T.o_int2
  have eN : PySem.W.findIn K (.ref C) "__ne__" = some (some (.builtin "object.__ne__")) ∧ PySem.W.mroIn K C (.type "object") = some true := ⟨T.q_ne, T.q_hm⟩
  refine ⟨f, fd, _, [], fnD (dsp := dsp_law_behind_right C) D.fn sc_law_behind_right (fun ds μ Q h => ?_) (fun cdv A outer s H E hr _ => ?_), D.mgf, D.kp, b, .nil⟩
  · obtain ⟨n, gs, hs, ns, rfl, _⟩ := h
    rfl
  · refine ⟨_, (pss_cons (ps_set (i := 3) sc_law_behind_right.nd rfl (Or.inl rfl) (StX.pe_callO (pv 0) cO cF (hr.mono (by decide)) pass0 (pa_cons (pv 2) pa_nil)))
      (pss_cons (ps_if (PW.pt (pw_or (pt_cmpR (op_neD hr.units) (StX.pe_callO (pe_op (op_own2 aF (hr.mono (by decide)) T.o_first aS aI aB) (pv 0) (pv 1)) cO cF (hr.mono (by decide)) pass0 (pa_cons (pv 2) pa_nil)) (StX.pe_callO (pv 1) cO cF (hr.mono (by decide)) pass0 (pa_cons (pv 3) pa_nil)) (nomark _)) (pw_or1 (pt_cmpR (op_neD hr.units) (StX.pe_callO (pe_op (op_own2 aF (hr.mono (by decide)) T.o_first aS aI aB) (pe_op (op_own2 aF (hr.mono (by decide)) T.o_first aS aI aB) (pv 0) (pv 1)) (pv 0)) cO cF (hr.mono (by decide)) pass0 (pa_cons (pv 2) pa_nil)) (StX.pe_callO (pv 0) cO cF (hr.mono (by decide)) pass0 (pa_cons (StX.pe_callO (pv 1) cO cF (hr.mono (by decide)) pass0 (pa_cons (pv 3) pa_nil)) pa_nil)) (nomark _)))))
       (pss_one (ps_ret pe_bl))
       pss_nil)
      (pss_cons (ps_if (PW.pt (pw_or (pt_cmpR (op_neO eF (hr.mono (by decide)) eS eI eB eN) (pe_op (op_own2 aF (hr.mono (by decide)) T.o_first aS aI aB) (pv 0) (pe_op (op_own2 aF (hr.mono (by decide)) T.o_first aS aI aB) (pv 1) (pv 0))) (pe_op (op_own2 aF (hr.mono (by decide)) T.o_first aS aI aB) (pe_op (op_own2 aF (hr.mono (by decide)) T.o_first aS aI aB) (pv 0) (pv 1)) (pv 0)) (nomark _)) (pw_or1 (pt_cmpR (op_neD hr.units) (StX.pe_callO (pe_op (op_own2 aF (hr.mono (by decide)) T.o_first aS aI aB) (pe_op (op_ownI mF (hr.mono (by decide)) T.o_first mS mI mB T.o_rmul mH1 mH2 T.o_sub) (pv 0) pe_int) (pv 1)) cO cF (hr.mono (by decide)) pass0 (pa_cons (pv 2) pa_nil)) (StX.pe_callO (pv 1) cO cF (hr.mono (by decide)) pass0 (pa_cons (StX.pe_callO (pv 0) cO cF (hr.mono (by decide)) pass0 (pa_cons (pv 3) pa_nil)) pa_nil)) (nomark _)))))
       (pss_one (ps_ret pe_bl))
       pss_nil)
      (pss_one (ps_ret (pe_and (pe_cmpR (op_eqD hr.units) (StX.pe_callO (pe_op (op_ownI mF (hr.mono (by decide)) T.o_first mS mI mB T.o_rmul mH1 mH2 T.o_sub) (pv 0) pe_int) cO cF (hr.mono (by decide)) pass0 (pa_cons (pv 2) pa_nil)) (pv 2) (nomark _)) (pe_one (pe_cmpR (op_eqG (rcG_ins eF eS eI eB pass0) (hr.mono (by decide))) (pe_op (op_own2 aF (hr.mono (by decide)) T.o_first aS aI aB) (pe_op (op_ownI mF (hr.mono (by decide)) T.o_first mS mI mB T.o_rmul mH1 mH2 T.o_sub) (pv 0) pe_int) (pv 0)) (pv 0) (nomark _))))))))), ?_⟩
    dsimp only [cxOf, Cx.nox]
    refine ⟨_, inferInstance, fun ds μ Q h => ?_⟩
    obtain ⟨n, gs, hs, ns, rfl, ok, ok', hl, hl', hn, h⟩ := h
    have n1 := ok.low
    have n12 := ok.high
    have ct : ∀ r : List Int, r.length = n → Ct (rowD r) r := fun r e => ⟨.inl rfl, by omega, by omega⟩
    have lR : (runs gs ns).length = n := by rw [runs_length]; exact hn
    have lM : (runs hs (runs gs ns)).length = n := by rw [runs_length]; exact lR
    have lRR : (runs gs (runs gs ns)).length = n := by rw [runs_length]; exact lR
    have okgh : NetOk n (gs ++ hs) := ok.app ok' (by omega)
    have okhg : NetOk n (hs ++ gs) := ok'.app ok (by omega)
    have ok3 : NetOk n (gs ++ hs ++ gs) := okgh.app ok (by rw [List.length_append]; omega)
    have ok2 : NetOk n (repG 2 gs) := ok.rep (by omega)
    have ok0 : NetOk n (repG 0 gs) := ok.rep (by omega)
    have l2 : (repG 2 gs).length = 2 * gs.length := len_rep 2 gs
    have l0 : (repG 0 gs).length = 0 * gs.length := len_rep 0 gs
    have ok2m : NetOk n (repG 2 gs ++ hs) := ok2.app ok' (by omega)
    have r2 : repG 2 gs = gs ++ gs := by rw [rep_succ, rep_succ]; show gs ++ (gs ++ []) = _; rw [List.append_nil]
    refine ⟨_, rfl, _, _, .o, _, rfl, ⟨_, _, .o⟩, n, gs, _, ns, rfl, ok, ct ns hn, hn, .inl ?_⟩
    refine ⟨_, rfl, _, rfl, _, _, _, _, .o, .o, n, gs, hs, rfl, ok, ok', by omega, _, _, .o, _, rfl, ⟨_, _, .o⟩, n, gs ++ hs, _, ns, rfl, okgh, ct ns hn, hn, .inl ⟨_, rfl, _, _, .o, _, rfl, ⟨_, _, .o⟩, n, hs, _, runs gs ns, rfl, ok', ct _ lR, lR, .inl (eqD_eq (by rw [runs_app]) (eqd_row _) (by decide) ⟨false, rfl, ?_⟩)⟩⟩
    show (if false = true then _ else _)
    rw [if_neg Bool.false_ne_true]
    refine ⟨_, rfl, _, rfl, _, _, _, _, .o, .o, n, gs, hs, rfl, ok, ok', by omega, _, rfl, _, _, _, _, .o, .o, n, gs ++ hs, gs, rfl, okgh, ok, (by rw [List.length_append]; omega), _, _, .o, _, rfl, ⟨_, _, .o⟩, n, gs ++ hs ++ gs, _, ns, rfl, ok3, ct ns hn, hn, .inl ⟨_, rfl, _, _, .o, _, rfl, _, _, .o, _, rfl, ⟨_, _, .o⟩, n, hs, _, runs gs ns, rfl, ok', ct _ lR, lR, .inl ⟨⟨_, _, .o⟩, n, gs, _, runs hs (runs gs ns), rfl, ok, ct _ lM, lM, .inl (eqD_eq (by rw [runs_app, runs_app]) (eqd_row _) (by decide) ⟨false, rfl, ?_⟩)⟩⟩⟩
    show (if false = true then _ else _)
    rw [if_neg Bool.false_ne_true]
    refine ⟨_, rfl, _, rfl, _, rfl, _, _, _, _, .o, .o, n, hs, gs, rfl, ok', ok, by omega, _, _, _, _, .o, .o, n, gs, hs ++ gs, rfl, ok, okhg, (by rw [List.length_append]; omega), _, rfl, _, rfl, _, _, _, _, .o, .o, n, gs, hs, rfl, ok, ok', by omega, _, rfl, _, _, _, _, .o, .o, n, gs ++ hs, gs, rfl, okgh, ok, (by rw [List.length_append]; omega), fldN, [.i n, .lst ((gs ++ hs ++ gs).map Gt.da)], (by rw [List.append_assoc]; rfl), rfl, ⟨n, _, rfl, rfl⟩, ⟨false, rfl, ?_⟩⟩
    show (if false = true then _ else _)
    rw [if_neg Bool.false_ne_true]
    refine ⟨_, rfl, _, _, 2, .o, rfl, n, 2, gs, rfl, ok, by omega, by decide, _, rfl, _, _, _, _, .o, .o, n, repG 2 gs, hs, rfl, ok2, ok', by omega, _, _, .o, _, rfl, ⟨_, _, .o⟩, n, repG 2 gs ++ hs, _, ns, rfl, ok2m, ct ns hn, hn, .inl ⟨_, rfl, _, _, .o, _, rfl, _, _, .o, _, rfl, ⟨_, _, .o⟩, n, gs, _, runs gs ns, rfl, ok, ct _ lR, lR, .inl ⟨⟨_, _, .o⟩, n, hs, _, runs gs (runs gs ns), rfl, ok', ct _ lRR, lRR, .inl (eqD_eq (by rw [runs_app, r2, runs_app]) (eqd_row _) (by decide) ⟨false, rfl, ?_⟩)⟩⟩⟩
    show (if false = true then _ else _)
    rw [if_neg Bool.false_ne_true]
    refine ⟨_, rfl, _, _, 0, .o, rfl, n, 0, gs, rfl, ok, by omega, by decide, _, _, .o, _, rfl, ⟨_, _, .o⟩, n, repG 0 gs, _, ns, rfl, ok0, ct ns hn, hn, .inl ⟨_, rfl, eqD_eq rfl (eqd_row _) (by decide) ⟨true, rfl, ?_⟩⟩⟩
    show (if true = true then _ else _)
    rw [if_pos rfl]
    exact ⟨_, rfl, _, _, 0, .o, rfl, n, 0, gs, rfl, ok, by omega, by decide, _, rfl, _, _, _, _, .o, .o, n, repG 0 gs, gs, rfl, ok0, ok, by omega, _, rfl, fldN, [.i n, .lst (gs.map Gt.da)], rfl, rfl, ⟨n, gs, rfl, rfl⟩, .inl h⟩
def dsp_law_beside_right (C : Addr) : DSp := fun ds μ Q => ∃ (a : Addr) (n m : Nat) (gs hs : List Gt) (ns : List Int), ds = [.r a, netD C n gs, .i n, netD C m hs, .i m, rowD ns] ∧ Pt a μ ∧ NetOk n gs ∧ NetOk m hs ∧ n ≤ 5 ∧ m ≤ 5 ∧ gs.length ≤ 15 ∧ hs.length ≤ 15 ∧ ns.length = n ∧ ∀ μ', Mf a μ μ' → Pt a μ' → Q (.b true) μ'
theorem c_law_beside_right (T : Txt K mg C) : C8.Cal P w K mg base 10 "_law_beside_right" (spD K (dsp_law_beside_right C)) [] := by
  obtain ⟨f, fd, D, b⟩ := T.d_law_beside_right
  obtain ⟨g, cO, cF⟩ := c_call (P := P) (w := w) (base := base) T
  obtain ⟨e0, he0, cN0⟩ := c_Net0 (P := P) (w := w) (base := base) T
  refine ⟨f, fd, _, [], fnD (dsp := dsp_law_beside_right C) D.fn sc_law_beside_right (fun ds μ Q h => ?_) (fun cdv A outer s H E hr _ => ?_), D.mgf, D.kp, b, .nil⟩
  · obtain ⟨a, n, m, gs, hs, ns, rfl, _⟩ := h
    rfl
  · refine ⟨_, (pss_cons (ps_set (i := 6) sc_law_beside_right.nd rfl (Or.inl rfl) (C8.pe_c (c_law_content T) hr (by decide) rfl (pa_cons (pv 0) (pa_cons (pv 4) pa_nil))))
      (pss_cons (ps_if (pt_cmpR (op_neD hr.units) (StX.pe_callO (C8.pe_mt (m_beside T) hr (by decide) (pv 1) (pa_cons (pv 3) pa_nil)) cO cF (hr.mono (by decide)) pass0 (pa_cons (pe_op op_cat (pv 5) (pv 6)) pa_nil)) (pe_op op_cat (StX.pe_callO (pv 1) cO cF (hr.mono (by decide)) pass0 (pa_cons (pv 5) pa_nil)) (StX.pe_callO (pv 3) cO cF (hr.mono (by decide)) pass0 (pa_cons (pv 6) pa_nil))) (nomark _))
       (pss_one (ps_ret pe_bl))
       pss_nil)
      (pss_cons (ps_if (pt_cmpR (op_neD hr.units) (StX.pe_callO (C8.pe_mt (m_beside T) hr (by decide) (pv 3) (pa_cons (pv 1) pa_nil)) cO cF (hr.mono (by decide)) pass0 (pa_cons (pe_op op_cat (pv 6) (pv 5)) pa_nil)) (pe_op op_cat (StX.pe_callO (pv 3) cO cF (hr.mono (by decide)) pass0 (pa_cons (pv 6) pa_nil)) (StX.pe_callO (pv 1) cO cF (hr.mono (by decide)) pass0 (pa_cons (pv 5) pa_nil))) (nomark _))
       (pss_one (ps_ret pe_bl))
       pss_nil)
      (pss_cons (ps_set (i := 7) sc_law_beside_right.nd rfl (Or.inl rfl) (pe_op op_add (pv 2) (C8.pe_c (c_law_draw T) hr (by decide) rfl (pa_cons (pv 0) (pa_cons (pe_op op_sub pe_int (pv 2)) pa_nil)))))
      (pss_cons (ps_set (i := 8) sc_law_beside_right.nd rfl (Or.inl rfl) (pe_ifExp (pt_cmpR op_gt (pv 7) (pv 2) (nomark _)) (C8.pe_c (c_law_content T) hr (by decide) rfl (pa_cons (pv 0) (pa_cons (pe_op op_sub (pv 7) (pv 2)) pa_nil))) (pe_lst pa_nil)))
      (pss_cons (ps_if (pt_cmpR (op_neD hr.units) (StX.pe_callO (C8.pe_mt (m_wider T) hr (by decide) (pv 1) (pa_cons (pv 7) pa_nil)) cO cF (hr.mono (by decide)) pass0 (pa_cons (pe_op op_cat (pv 5) (pv 8)) pa_nil)) (pe_op op_cat (StX.pe_callO (pv 1) cO cF (hr.mono (by decide)) pass0 (pa_cons (pv 5) pa_nil)) (pv 8)) (nomark _))
       (pss_one (ps_ret pe_bl))
       pss_nil)
      (pss_one (ps_ret (pe_cmpR (op_eqD hr.units) (StX.pe_callO (C8.pe_mt (m_beside T) hr (by decide) (pv 1) (pa_cons (C8.pe_mk cN0 hr (by decide) rfl (pa_cons (pv 4) pa_nil)) pa_nil)) cO cF (hr.mono (by decide)) pass0 (pa_cons (pe_op op_cat (pv 5) (pv 6)) pa_nil)) (pe_op op_cat (StX.pe_callO (pv 1) cO cF (hr.mono (by decide)) pass0 (pa_cons (pv 5) pa_nil)) (pv 6)) (nomark _)))))))))), ?_⟩
    dsimp only [cxOf, Cx.nox]
    refine ⟨_, inferInstance, fun ds μ Q h => ?_⟩
    obtain ⟨a, n, m, gs, hs, ns, rfl, pt, ok, ok', n5, m5, hl, hl', hn, h⟩ := h
    have n1 := ok.low
    have m1 := ok'.low
    have hes : ∀ I : Hp, AtAll K I [.ref e0] [.tup []] := fun I => .cons (he0 I) .nil
    have cat : ∀ x y : List Int, Da.lst (x.map Da.i ++ y.map Da.i) = rowD (x ++ y) := fun x y => by show _ = Da.lst ((x ++ y).map Da.i); rw [List.map_append]
    have ct : ∀ (r : List Int) (k : Nat), r.length = k → 1 ≤ k → k ≤ 12 → Ct (rowD r) r := fun r k e h1 h2 => ⟨.inl rfl, by omega, by omega⟩
    have cc : ∀ (x y : List Int), 1 ≤ x.length + y.length → x.length + y.length ≤ 12 → Ct (.lst (x.map Da.i ++ y.map Da.i)) (x ++ y) := fun x y h1 h2 => ⟨.inl (cat x y), by rw [List.length_append]; exact h1, by rw [List.length_append]; exact h2⟩
    have lenS : ∀ x y : List Int, x.length + y.length ≤ 1000 → (x.map Da.i).length + (y.map Da.i).length ≤ sizeLine := fun x y h => by rw [List.length_map, List.length_map]; exact Nat.le_trans h (by decide)
    have lR : (runs gs ns).length = n := by rw [runs_length]; exact hn
    have okb : NetOk (n + m) (gs ++ hs.map (Gt.sh n m)) := ok.sh ok' (by omega) (by omega)
    have okc : NetOk (m + n) (hs ++ gs.map (Gt.sh m n)) := ok'.sh ok (by omega) (by omega)
    have ok0 : NetOk m [] := ⟨m1, by omega, fun g hg => (by cases hg), by decide⟩
    have okd : NetOk (n + m) (gs ++ ([] : List Gt).map (Gt.sh n m)) := ok.sh ok0 (by omega) (by show gs.length + 0 ≤ 400; omega)
    refine ⟨_, rfl, _, rfl, a, m, rfl, pt, m1, by omega, fun ms μ1 f1 pt1 hm hs1 => .inl ?_⟩
    have lM : (runs hs ms).length = m := by rw [runs_length]; exact hm
    have lnm : (ns ++ ms).length = n + m := by rw [List.length_append]; omega
    have lmn : (ms ++ ns).length = m + n := by rw [List.length_append]; omega
    refine ⟨_, rfl, _, _, .o, (by simp [ofStr_eq]), _, rfl, n, m, gs, hs, rfl, ok, ok', by omega, by omega, _, _, .o, _, rfl, _, rfl, _, _, .inl rfl, .inl rfl, lenS _ _ (by omega), .inl ⟨⟨_, _, .o⟩, n + m, gs ++ hs.map (Gt.sh n m), _, ns ++ ms, rfl, okb, cc _ _ (by omega) (by omega), lnm, .inl ⟨_, rfl, _, _, .o, _, rfl, ⟨_, _, .o⟩, n, gs, _, ns, rfl, ok, ct _ n hn n1 (by omega), hn, .inl ⟨_, rfl, _, _, .o, _, rfl, ⟨_, _, .o⟩, m, hs, _, ms, rfl, ok', ct _ m hm m1 (by omega), hm, .inl ⟨_, _, .inl rfl, .inl rfl, lenS _ _ (by omega), .inl (eqD_eq (by rw [cat, runs_beside hn hm ok.ok ok'.ok]) (by rw [cat]; exact eqd_row _) (by decide) ⟨false, rfl, ?_⟩)⟩⟩⟩⟩⟩
    show (if false = true then _ else _)
    rw [if_neg Bool.false_ne_true]
    refine ⟨_, rfl, _, _, .o, (by simp [ofStr_eq]), _, rfl, m, n, hs, gs, rfl, ok', ok, by omega, by omega, _, _, .o, _, rfl, _, rfl, _, _, .inl rfl, .inl rfl, lenS _ _ (by omega), .inl ⟨⟨_, _, .o⟩, m + n, hs ++ gs.map (Gt.sh m n), _, ms ++ ns, rfl, okc, cc _ _ (by omega) (by omega), lmn, .inl ⟨_, rfl, _, _, .o, _, rfl, ⟨_, _, .o⟩, m, hs, _, ms, rfl, ok', ct _ m hm m1 (by omega), hm, .inl ⟨_, rfl, _, _, .o, _, rfl, ⟨_, _, .o⟩, n, gs, _, ns, rfl, ok, ct _ n hn n1 (by omega), hn, .inl ⟨_, _, .inl rfl, .inl rfl, lenS _ _ (by omega), .inl (eqD_eq (by rw [cat, runs_beside hm hn ok'.ok ok.ok]) (by rw [cat]; exact eqd_row _) (by decide) ⟨false, rfl, ?_⟩)⟩⟩⟩⟩⟩
    show (if false = true then _ else _)
    rw [if_neg Bool.false_ne_true]
    refine ⟨_, rfl, _, rfl, _, rfl, _, _, rfl, rfl, a, (13 : Int) - n, rfl, pt1, by omega, by omega, fun d μ2 f2 pt2 d0 d1 => ⟨_, _, rfl, rfl, ?_⟩⟩
    obtain ⟨k, rfl⟩ := Int.eq_ofNat_of_zero_le d0
    have e' : (fun i j : Int => V.int (i + j)) (n : Int) (k : Int) = V.int ((n + k : Nat) : Int) := congrArg V.int (by show (n : Int) + k = ((n + k : Nat) : Int); omega)
    rw [e']
    have hk : n + k ≤ 12 := by omega
    refine ⟨_, rfl, _, rfl, _, _, rfl, rfl, _, rfl, ?_⟩
    by_cases c : ((n : Nat) : Int) < ((n + k : Nat) : Int)
    · rw [decide_eq_true c]
      show (if true = true then _ else _)
      rw [if_pos rfl]
      refine ⟨_, rfl, _, rfl, _, rfl, _, _, rfl, rfl, a, k, congrArg (fun z : Int => [Da.r a, Da.i z]) (by omega : ((n + k : Nat) : Int) - (n : Int) = (k : Int)), pt2, by omega, by omega, fun es μ3 f3 pt3 hes3 _ => .inl ?_⟩
      have lne : (ns ++ es).length = n + k := by rw [List.length_append]; omega
      refine ⟨_, rfl, _, _, .o, (by simp [ofStr_eq]), _, rfl, n, n + k, gs, rfl, ok, by omega, hk, _, _, .o, _, rfl, _, rfl, _, _, .inl rfl, .inl rfl, lenS _ _ (by omega), .inl ⟨⟨_, _, .o⟩, n + k, gs, _, ns ++ es, rfl, ok.wide (by omega) hk, cc _ _ (by omega) (by omega), lne, .inl ⟨_, rfl, _, _, .o, _, rfl, ⟨_, _, .o⟩, n, gs, _, ns, rfl, ok, ct _ n hn n1 (by omega), hn, .inl ⟨_, rfl, _, _, .inl rfl, .inl rfl, lenS _ _ (by omega), .inl (eqD_eq (by rw [cat, runs_left (by rw [hn]; exact ok.ok)]) (by rw [cat]; exact eqd_row _) (by decide) ⟨false, rfl, ?_⟩)⟩⟩⟩⟩
      show (if false = true then _ else _)
      rw [if_neg Bool.false_ne_true]
      refine ⟨_, rfl, _, _, .o, (by simp [ofStr_eq]), _, rfl, [.tup []], hes, ?_⟩
      intro q hq
      refine ⟨q, _, m, [], rfl, setM_at, .inr rfl, ok0, rfl, _, _, setM_at, .inl ?_⟩
      rw [setM_setM, remM_setM hq]
      clear hq q
      refine ⟨n, m, gs, [], rfl, ok, ok0, by omega, by show gs.length + 0 ≤ 400; omega, _, _, .o, _, rfl, _, rfl, _, _, .inl rfl, .inl rfl, lenS _ _ (by omega), .inl ⟨⟨_, _, .o⟩, n + m, gs ++ ([] : List Gt).map (Gt.sh n m), _, ns ++ ms, rfl, okd, cc _ _ (by omega) (by omega), lnm, .inl ⟨_, rfl, _, _, .o, _, rfl, ⟨_, _, .o⟩, n, gs, _, ns, rfl, ok, ct _ n hn n1 (by omega), hn, .inl ⟨_, rfl, _, _, .inl rfl, .inl rfl, lenS _ _ (by omega), .inl (eqD_eq (by rw [cat, runs_beside hn hm ok.ok ok0.ok]; rfl) (by rw [cat]; exact eqd_row _) (by decide) (.inl (h _ ((f1.mf.trans f2.mf).trans f3.mf) pt3)))⟩⟩⟩⟩
    · rw [decide_eq_false c]
      show (if false = true then _ else _)
      rw [if_neg Bool.false_ne_true]
      have f3 : Fr a μ2 μ2 := .refl
      have pt3 := pt2
      refine ⟨by decide, .inl ?_⟩
      have hes3 : ([] : List Int).length = k := by show 0 = k; omega
      show dSeq _ _ _ (List.set _ 8 (some (rowD []))) μ2
      generalize ([] : List Int) = es at hes3 ⊢
      have lne : (ns ++ es).length = n + k := by rw [List.length_append]; omega
      refine ⟨_, rfl, _, _, .o, (by simp [ofStr_eq]), _, rfl, n, n + k, gs, rfl, ok, by omega, hk, _, _, .o, _, rfl, _, rfl, _, _, .inl rfl, .inl rfl, lenS _ _ (by omega), .inl ⟨⟨_, _, .o⟩, n + k, gs, _, ns ++ es, rfl, ok.wide (by omega) hk, cc _ _ (by omega) (by omega), lne, .inl ⟨_, rfl, _, _, .o, _, rfl, ⟨_, _, .o⟩, n, gs, _, ns, rfl, ok, ct _ n hn n1 (by omega), hn, .inl ⟨_, rfl, _, _, .inl rfl, .inl rfl, lenS _ _ (by omega), .inl (eqD_eq (by rw [cat, runs_left (by rw [hn]; exact ok.ok)]) (by rw [cat]; exact eqd_row _) (by decide) ⟨false, rfl, ?_⟩)⟩⟩⟩⟩
      show (if false = true then _ else _)
      rw [if_neg Bool.false_ne_true]
      refine ⟨_, rfl, _, _, .o, (by simp [ofStr_eq]), _, rfl, [.tup []], hes, ?_⟩
      intro q hq
      refine ⟨q, _, m, [], rfl, setM_at, .inr rfl, ok0, rfl, _, _, setM_at, .inl ?_⟩
      rw [setM_setM, remM_setM hq]
      clear hq q
      refine ⟨n, m, gs, [], rfl, ok, ok0, by omega, by show gs.length + 0 ≤ 400; omega, _, _, .o, _, rfl, _, rfl, _, _, .inl rfl, .inl rfl, lenS _ _ (by omega), .inl ⟨⟨_, _, .o⟩, n + m, gs ++ ([] : List Gt).map (Gt.sh n m), _, ns ++ ms, rfl, okd, cc _ _ (by omega) (by omega), lnm, .inl ⟨_, rfl, _, _, .o, _, rfl, ⟨_, _, .o⟩, n, gs, _, ns, rfl, ok, ct _ n hn n1 (by omega), hn, .inl ⟨_, rfl, _, _, .inl rfl, .inl rfl, lenS _ _ (by omega), .inl (eqD_eq (by rw [cat, runs_beside hn hm ok.ok ok0.ok]; rfl) (by rw [cat]; exact eqd_row _) (by decide) (.inl (h _ ((f1.mf.trans f2.mf).trans f3.mf) pt3)))⟩⟩⟩⟩
end
end LL

namespace LL
open PySem L2 PySem.Spec PyProof.Rows
theorem at0_ext {a b : List Int} (hl : a.length = b.length) (h : ∀ i, i < a.length → at0 a i = at0 b i) : a = b := by
  refine List.ext_getElem hl fun i h1 h2 => ?_
  have q := h i h1
  unfold at0 at q
  rw [List.getD_eq_getElem?_getD, List.getD_eq_getElem?_getD, List.getElem?_eq_getElem h1, List.getElem?_eq_getElem h2] at q
  exact q
theorem ord_onto {os : List Nat} {n k : Nat} (ho : IsOrd os n) (hk : k < n) : ∃ i, i < n ∧ ord os i = k := by
  obtain ⟨i, hi⟩ := List.mem_iff_getElem?.mp (ho.mem_iff.mpr (List.mem_range.mpr hk))
  have h := (List.getElem?_eq_some_iff.mp hi).1
  refine ⟨i, by rw [← ho.len]; exact h, ?_⟩
  unfold ord
  rw [List.getD_eq_getElem?_getD, hi]
  rfl
theorem ord_lt {os : List Nat} {n i : Nat} (ho : IsOrd os n) (hi : i < n) : ord os i < n := ho.lt (ord_mem (by rw [ho.len]; exact hi))
theorem ord_ext {os : List Nat} {n : Nat} {a b : List Int} (ho : IsOrd os n) (ha : a.length = n) (hb : b.length = n) (h : ∀ i, i < n → at0 a (ord os i) = at0 b (ord os i)) : a = b :=
  at0_ext (ha.trans hb.symm) fun k hk => by
    obtain ⟨i, hi, e⟩ := ord_onto ho (by omega : k < n)
    rw [← e]
    exact h i hi
theorem set_moved {os : List Nat} {ns : List Int} {i : Nat} {v : Int} (ho : IsOrd os ns.length) (hi : i < ns.length) : movedL os (ns.set i v) = (movedL os ns).set (ord os i) v := by
  have ho' : IsOrd os (ns.set i v).length := by rw [List.length_set]; exact ho
  refine ord_ext ho (by rw [moved_len, List.length_set]) (by rw [List.length_set, moved_len]) fun k hk => ?_
  rw [moved_at ho' (by rw [List.length_set]; exact hk), at0_set hi, at0_set (by rw [moved_len]; exact ord_lt ho hi), moved_at ho hk]
  refine ite_same ⟨fun e => by rw [e], fun e => ord_inj ho hk hi e⟩
theorem done_moved {g : Gt} {os : List Nat} {ns : List Int} (ho : IsOrd os ns.length) (h : g.ok ns.length) : (g.mv os).done (movedL os ns) = movedL os (g.done ns) := by
  cases g with
  | add i c =>
    have h : i < ns.length := h
    simp only [Gt.done, Gt.mv]
    rw [moved_at ho h, set_moved ho h]
  | copy i j =>
    simp only [Gt.done, Gt.mv]
    rw [moved_at ho h.2.1, set_moved ho h.1]
  | low i j =>
    simp only [Gt.done, Gt.mv]
    rw [moved_at ho h.1, moved_at ho h.2.1, set_moved ho h.1]
  | high i j =>
    simp only [Gt.done, Gt.mv]
    rw [moved_at ho h.1, moved_at ho h.2.1, set_moved ho h.1]
  | sort i j =>
    simp only [Gt.done, Gt.mv]
    rw [moved_at ho h.1, moved_at ho h.2.1, set_moved (by rw [List.length_set]; exact ho) (by rw [List.length_set]; exact h.2.1), set_moved ho h.1]
theorem runs_mv : ∀ {gs : List Gt} {os : List Nat} {ns : List Int}, IsOrd os ns.length → (∀ g ∈ gs, g.ok ns.length) → runs (gs.map (Gt.mv os)) (movedL os ns) = movedL os (runs gs ns)
  | [], _, _, _, _ => rfl
  | g :: r, os, ns, ho, h => by
    show runs (r.map (Gt.mv os)) ((g.mv os).done (movedL os ns)) = movedL os (runs r (g.done ns))
    rw [done_moved ho (h g List.mem_cons_self)]
    exact runs_mv (by rw [done_length]; exact ho) fun x hx => by rw [done_length]; exact h x (List.mem_cons_of_mem _ hx)
/-- one order behind another one -/
def bothO (ls os : List Nat) : List Nat := os.map (ord ls)
theorem ord_map {f : Nat → Nat} {os : List Nat} {i : Nat} (h : i < os.length) : ord (os.map f) i = f (ord os i) := by
  unfold ord
  rw [List.getD_eq_getElem?_getD, List.getD_eq_getElem?_getD, List.getElem?_map, List.getElem?_eq_getElem h]
  rfl
theorem range_ord {os : List Nat} {n : Nat} (h : os.length = n) : (List.range n).map (ord os) = os := by
  subst h
  refine List.ext_getElem (by rw [List.length_map, List.length_range]) fun i h1 h2 => ?_
  rw [List.getElem_map, List.getElem_range]
  unfold ord
  rw [List.getD_eq_getElem?_getD, List.getElem?_eq_getElem h2]
  rfl
theorem both_ord {ls os : List Nat} {n : Nat} (hl : IsOrd ls n) (ho : IsOrd os n) : IsOrd (bothO ls os) n := by
  have q := ho.map (ord ls)
  rw [range_ord hl.len] at q
  exact q.trans hl
theorem both_at {ls os : List Nat} {n i : Nat} (ho : IsOrd os n) (hi : i < n) : ord (bothO ls os) i = ord ls (ord os i) := ord_map (by rw [ho.len]; exact hi)
theorem moved_both {ls os : List Nat} {ns : List Int} (hl : IsOrd ls ns.length) (ho : IsOrd os ns.length) : movedL ls (movedL os ns) = movedL (bothO ls os) ns := by
  have hl' : IsOrd ls (movedL os ns).length := by rw [moved_len]; exact hl
  refine ord_ext (both_ord hl ho) (by rw [moved_len, moved_len]) moved_len fun i hi => ?_
  rw [moved_at (both_ord hl ho) hi, both_at ho hi, moved_at hl' (by rw [moved_len]; exact ord_lt ho hi), moved_at ho hi]
theorem mv_both {ls os bs : List Nat} {n : Nat} {g : Gt} (hb : ∀ i, i < n → ord bs i = ord ls (ord os i)) (h : g.ok n) : (g.mv os).mv ls = g.mv bs := by
  cases g with
  | add i c => have h : i < n := h; simp only [Gt.mv, hb i h]
  | low i j => simp only [Gt.mv, hb i h.1, hb j h.2.1]
  | high i j => simp only [Gt.mv, hb i h.1, hb j h.2.1]
  | sort i j => simp only [Gt.mv, hb i h.1, hb j h.2.1]
  | copy i j => simp only [Gt.mv, hb i h.1, hb j h.2.1]
theorem mv_id {bk os : List Nat} {n : Nat} {g : Gt} (hb : ∀ i, i < n → ord bk (ord os i) = i) (h : g.ok n) : (g.mv os).mv bk = g := by
  cases g with
  | add i c => have h : i < n := h; simp only [Gt.mv, hb i h]
  | low i j => simp only [Gt.mv, hb i h.1, hb j h.2.1]
  | high i j => simp only [Gt.mv, hb i h.1, hb j h.2.1]
  | sort i j => simp only [Gt.mv, hb i h.1, hb j h.2.1]
  | copy i j => simp only [Gt.mv, hb i h.1, hb j h.2.1]
/-- where a lane stands in an order -/
def pos : List Nat → Nat → Nat
  | [], _ => 0
  | o :: os, l => if o = l then 0 else pos os l + 1
theorem pos_at : ∀ {os : List Nat} {l : Nat}, l ∈ os → os[pos os l]? = some l ∧ ∀ m, m < pos os l → os[m]? ≠ some l
  | [], _, h => by cases h
  | o :: os, l, h => by
    by_cases e : o = l
    · subst e
      unfold pos
      rw [if_pos rfl]
      exact ⟨rfl, fun m hm => by omega⟩
    · have q := pos_at (os := os) (l := l) ((List.mem_cons.mp h).elim (fun z => absurd z.symm e) id)
      unfold pos
      rw [if_neg e]
      refine ⟨q.1, fun m hm => ?_⟩
      cases m with
      | zero => exact fun z => e (Option.some.inj z)
      | succ k => exact q.2 k (by omega)
def backO (os : List Nat) (n : Nat) : List Nat := (List.range n).map (pos os)
theorem pos_ord {os : List Nat} {n i : Nat} (ho : IsOrd os n) (hi : i < n) : pos os (ord os i) = i := by
  have q := (pos_at (ord_mem (os := os) (i := i) (by rw [ho.len]; exact hi))).1
  have hp := (List.getElem?_eq_some_iff.mp q).1
  refine ord_inj ho (by rw [← ho.len]; exact hp) hi ?_
  unfold ord at q ⊢
  rw [List.getD_eq_getElem?_getD, q]
  rfl
theorem back_at {os : List Nat} {n i : Nat} (ho : IsOrd os n) (hi : i < n) : ord (backO os n) (ord os i) = i := by
  unfold backO
  rw [ord_map (by rw [List.length_range]; exact ord_lt ho hi)]
  have e : ord (List.range n) (ord os i) = ord os i := by
    show (List.range n).getD (ord os i) 0 = ord os i
    rw [List.getD_eq_getElem?_getD, List.getElem?_range (ord_lt ho hi)]
    rfl
  rw [e, pos_ord ho hi]
theorem back_ord {os : List Nat} {n : Nat} (ho : IsOrd os n) : IsOrd (backO os n) n := by
  have q := ho.map (pos os)
  have e : os.map (pos os) = List.range n := by
    have h2 : os.map (pos os) = ((List.range n).map (ord os)).map (pos os) := by rw [range_ord ho.len]
    rw [h2, List.map_map]
    exact (List.map_congr_left fun i hi => pos_ord ho (List.mem_range.mp hi)).trans (List.map_id _)
  rw [e] at q
  exact q.symm
theorem moved_back {os : List Nat} {ns : List Int} (ho : IsOrd os ns.length) : movedL (backO os ns.length) (movedL os ns) = ns := by
  have hb : IsOrd (backO os ns.length) (movedL os ns).length := by rw [moved_len]; exact back_ord ho
  refine at0_ext (by rw [moved_len, moved_len]) fun i hi => ?_
  rw [moved_len, moved_len] at hi
  have q := moved_at hb (i := ord os i) (by rw [moved_len]; exact ord_lt ho hi)
  rw [back_at ho hi] at q
  rw [q, moved_at ho hi]
end LL

set_option synthInstance.maxSize 100000
set_option synthInstance.maxHeartbeats 4000000
namespace LL
open PySem L2 PySem.Spec PyProof.Rows
section
variable {P : Program} {w : World} {K : PySem.W.Frag} {mg : Str → Option Value} {base : Heap} {C : Addr}
def dsp_law_moved_right (C : Addr) : DSp := fun ds μ Q => ∃ (a : Addr) (n : Nat) (gs : List Gt) (ns : List Int), ds = [.r a, netD C n gs, .i n, rowD ns] ∧ Pt a μ ∧ NetOk n gs ∧ ns.length = n ∧ ∀ μ', Mf a μ μ' → Pt a μ' → Q (.b true) μ'
theorem c_law_moved_right (T : Txt K mg C) : C8.Cal P w K mg base 10 "_law_moved_right" (spD K (dsp_law_moved_right C)) [] := by
  obtain ⟨f, fd, D, b⟩ := T.d_law_moved_right
  obtain ⟨g, cO, cF⟩ := c_call (P := P) (w := w) (base := base) T
  obtain ⟨eg, ed, eF, eS, eI, eB⟩ := c_eq (P := P) (w := w) (base := base) T
  have eN : PySem.W.findIn K (.ref C) "__ne__" = some (some (.builtin "object.__ne__")) ∧ PySem.W.mroIn K C (.type "object") = some true := ⟨T.q_ne, T.q_hm⟩
  refine ⟨f, fd, _, [], fnD (dsp := dsp_law_moved_right C) D.fn sc_law_moved_right (fun ds μ Q h => ?_) (fun cdv A outer s H E hr _ => ?_), D.mgf, D.kp, b, .nil⟩
  · obtain ⟨a, n, gs, ns, rfl, _⟩ := h
    rfl
  · refine ⟨_, (pss_cons (ps_asg (pe_tup (pa_cons (C8.pe_c (c_law_mixed T) hr (by decide) rfl (pa_cons (pv 0) (pa_cons (pe_listRg rfl (by rfl) T.b_list (prg_1 (by rfl) T.b_range (pv 2))) pa_nil))) (pa_cons (C8.pe_c (c_law_mixed T) hr (by decide) rfl (pa_cons (pv 0) (pa_cons (pe_listRg rfl (by rfl) T.b_list (prg_1 (by rfl) T.b_range (pv 2))) pa_nil))) pa_nil))) (pg_tup (n := 2) rfl (pgs_cons (pg_name (i := 4) sc_law_moved_right.nd rfl (Or.inr rfl)) (pgs_cons (pg_name (i := 5) sc_law_moved_right.nd rfl (Or.inr rfl)) pgs_nil))))
      (pss_cons (ps_set (i := 6) sc_law_moved_right.nd rfl (Or.inl rfl) (C8.pe_mt (m_renumbered T) hr (by decide) (pv 1) (pa_cons (pv 4) pa_nil)))
      (pss_cons (ps_if (pt_cmpR (op_neD hr.units) (StX.pe_callO (pv 6) cO cF (hr.mono (by decide)) pass0 (pa_cons (C8.pe_c (c_moved T) hr (by decide) rfl (pa_cons (pv 3) (pa_cons (pv 4) pa_nil))) pa_nil)) (C8.pe_c (c_moved T) hr (by decide) rfl (pa_cons (StX.pe_callO (pv 1) cO cF (hr.mono (by decide)) pass0 (pa_cons (pv 3) pa_nil)) (pa_cons (pv 4) pa_nil))) (nomark _))
       (pss_one (ps_ret pe_bl))
       pss_nil)
      (pss_cons (ps_setLc (i := 7) (own := [("_law_lane", 9)]) (g := (gName 9)) (tt := tYes) rfl sc_law_moved_right.nd rfl rfl (sw_true rfl rfl rfl (by decide +kernel)) (pi_range1 rfl T.b_range (pa_cons (pv 2) pa_nil)) (blkOk_by (N := N_law_moved_right) (sc := C8.fnScope s_law_moved_right) (by decide +kernel)) (fun _ _ _ _ _ => (pg_name (i := 9) sc_law_moved_right.nd rfl (Or.inl rfl))) (fun _ _ _ _ _ => pts_nil) (fun _ _ _ _ _ => (pe_ix (r := rIxL K) ix_list (pv 5) (pe_ix (r := rIxL K) ix_list (pv 4) (pv 9) (fun _ _ => rfl)) (fun _ _ => rfl))))
      (pss_cons (ps_if (PW.pt (pw_or (pt_cmpR (op_neO eF (hr.mono (by decide)) eS eI eB eN) (C8.pe_mt (m_renumbered T) hr (by decide) (pv 6) (pa_cons (pv 5) pa_nil)) (C8.pe_mt (m_renumbered T) hr (by decide) (pv 1) (pa_cons (pv 7) pa_nil)) (nomark _)) (pw_or1 (pt_cmpR (op_neD hr.units) (C8.pe_c (c_moved T) hr (by decide) rfl (pa_cons (C8.pe_c (c_moved T) hr (by decide) rfl (pa_cons (pv 3) (pa_cons (pv 4) pa_nil))) (pa_cons (pv 5) pa_nil))) (C8.pe_c (c_moved T) hr (by decide) rfl (pa_cons (pv 3) (pa_cons (pv 7) pa_nil))) (nomark _)))))
       (pss_one (ps_ret pe_bl))
       pss_nil)
      (pss_cons (ps_setLc (i := 8) (own := [("_law_lane", 9)]) (g := (gName 9)) (tt := tYes) (te := (tBM K "list" (rIndex K) (tVar 4) (tCons (tVar 9) tNil))) rfl sc_law_moved_right.nd rfl rfl (sw_true rfl rfl rfl (by decide +kernel)) (pi_range1 rfl T.b_range (pa_cons (pv 2) pa_nil)) (blkOk_by (N := N_law_moved_right) (sc := C8.fnScope s_law_moved_right) (by decide +kernel)) (fun _ _ _ _ _ => (pg_name (i := 9) sc_law_moved_right.nd rfl (Or.inl rfl))) (fun _ _ _ _ _ => pts_nil) (fun _ _ _ _ _ => (pe_bm PySem.F.plainAttrs_list PySem.F.slot_list_index PySem.F.type_list_index mt_index (pv 4) (pa_cons (pv 9) pa_nil))))
      (pss_one (ps_ret (pe_and (pe_cmpR (op_eqG (rcG_ins eF eS eI eB pass0) (hr.mono (by decide))) (C8.pe_mt (m_renumbered T) hr (by decide) (pv 6) (pa_cons (pv 8) pa_nil)) (pv 1) (nomark _)) (pe_one (pe_cmpR (op_eqD hr.units) (C8.pe_c (c_moved T) hr (by decide) rfl (pa_cons (C8.pe_c (c_moved T) hr (by decide) rfl (pa_cons (pv 3) (pa_cons (pv 4) pa_nil))) (pa_cons (pv 8) pa_nil))) (pv 3) (nomark _)))))))))))), ?_⟩
    dsimp only [cxOf, Cx.nox]
    refine ⟨_, inferInstance, fun ds μ Q h => ?_⟩
    obtain ⟨a, n, gs, ns, rfl, pt, ok, hn, h⟩ := h
    subst hn
    have n1 := ok.low
    have n12 := ok.high
    have ct : ∀ r : List Int, r.length = ns.length → Ct (rowD r) r := fun r e => ⟨.inl rfl, by omega, by omega⟩
    refine ⟨_, rfl, _, rfl, (ns.length : Int), rfl, by omega, by omega, .inl ⟨a, ns.length, (by rw [Int.toNat_natCast, rgD_ints]), pt, n12, fun os μ1 m1 pt1 ho => ?_⟩⟩
    refine ⟨_, rfl, _, rfl, (ns.length : Int), rfl, by omega, by omega, .inl ⟨a, ns.length, (by rw [Int.toNat_natCast, rgD_ints]), pt1, n12, fun ls μ2 m2 pt2 hl => ?_⟩⟩
    refine ⟨(by show 2 ≤ sizeLine; decide), _, rfl, rfl, _, _, rfl, _, _, rfl, rfl, ?_⟩
    have lM : (movedL os ns).length = ns.length := moved_len
    have hoR : IsOrd os (runs gs ns).length := by rw [runs_length]; exact ho
    have hlM : IsOrd ls (movedL os ns).length := by rw [lM]; exact hl
    have hbM : IsOrd (backO os ns.length) (movedL os ns).length := by rw [lM]; exact back_ord ho
    have lR : (runs gs ns).length = ns.length := runs_length _ _
    have eg : (gs.map (Gt.mv os)).map (Gt.mv ls) = gs.map (Gt.mv (bothO ls os)) := by
      rw [List.map_map]
      exact List.map_congr_left fun g hg => mv_both (fun i hi => both_at ho hi) (ok.ok g hg)
    have eb2 : (gs.map (Gt.mv os)).map (Gt.mv (backO os ns.length)) = gs := by
      rw [List.map_map]
      exact (List.map_congr_left fun g hg => mv_id (fun i hi => back_at ho hi) (ok.ok g hg)).trans (List.map_id _)
    have e1 : ((List.range ns.length).map fun i => Da.i ((ord ls (ord os i) : Nat) : Int)) = (intsN (bothO ls os)).map Da.i := by
      unfold bothO intsN
      have q := range_ord ho.len
      rw [← q, List.map_map, List.map_map, List.map_map, q]
      rfl
    have e2 : ((List.range ns.length).map fun i => Da.i ((pos os i : Nat) : Int)) = (intsN (backO os ns.length)).map Da.i := by
      unfold backO intsN
      rw [List.map_map, List.map_map]
      rfl
    refine ⟨_, rfl, _, _, .o, (by simp [ofStr_eq]), _, rfl, ns.length, gs, os, rfl, ok, ho, ?_⟩
    refine ⟨_, rfl, _, _, .o, _, rfl, _, rfl, ns, os, rfl, n1, n12, ho, .inl ⟨⟨_, _, .o⟩, ns.length, gs.map (Gt.mv os), _, movedL os ns, rfl, ok.mv ho, ct _ lM, lM, .inl ⟨_, rfl, _, _, .o, _, rfl, ⟨_, _, .o⟩, ns.length, gs, _, ns, rfl, ok, ct ns rfl, rfl, .inl ⟨_, rfl, runs gs ns, os, rfl, by omega, by omega, hoR, .inl (eqD_eq (by rw [runs_mv ho ok.ok]) (eqd_row _) (by decide) ⟨false, rfl, ?_⟩)⟩⟩⟩⟩
    show (if false = true then _ else _)
    rw [if_neg Bool.false_ne_true]
    refine ⟨by decide, _, rfl, (ns.length : Int), rfl, by omega, by omega, ?_⟩
    rw [Int.toNat_natCast]
    refine lcMap (xs := List.range ns.length) (ψ := fun i => Da.i ((ord ls (ord os i) : Nat) : Int)) (by rw [List.length_range]; omega) (fun _ _ => trivial) (fun j i μ' R hi _ r => ?_) (.inl ?_)
    · have hi2 := List.mem_range.mp (List.mem_of_getElem? hi)
      exact ⟨_, rfl, _, rfl, _, rfl, _, _, _, .l, rfl, (by rw [Int.zero_add]; exact at_ord (by rw [ho.len]; exact hi2)), _, _, _, .l, rfl, at_ord (by rw [hl.len]; exact ord_lt ho hi2), r⟩
    rw [e1]
    refine ⟨_, rfl, _, _, .o, (by simp [ofStr_eq]), _, rfl, ns.length, gs.map (Gt.mv os), ls, rfl, ok.mv ho, hl, _, rfl, _, _, .o, (by simp [ofStr_eq]), _, rfl, ns.length, gs, bothO ls os, rfl, ok, both_ord hl ho, fldN, [.i ns.length, .lst ((gs.map (Gt.mv (bothO ls os))).map Gt.da)], (by rw [eg]; rfl), rfl, ⟨ns.length, _, rfl, rfl⟩, ⟨false, rfl, ?_⟩⟩
    show (if false = true then _ else _)
    rw [if_neg Bool.false_ne_true]
    refine ⟨_, rfl, _, rfl, ns, os, rfl, n1, n12, ho, .inl ⟨_, rfl, movedL os ns, ls, rfl, by omega, by omega, hlM, .inl ⟨_, rfl, _, rfl, ns, bothO ls os, rfl, n1, n12, both_ord hl ho, .inl (eqD_eq (by rw [moved_both hl ho]) (eqd_row _) (by decide) ⟨false, rfl, ?_⟩)⟩⟩⟩
    show (if false = true then _ else _)
    rw [if_neg Bool.false_ne_true]
    refine ⟨by decide, _, rfl, (ns.length : Int), rfl, by omega, by omega, ?_⟩
    rw [Int.toNat_natCast]
    refine lcMap (xs := List.range ns.length) (ψ := fun i => Da.i ((pos os i : Nat) : Int)) (by rw [List.length_range]; omega) (fun _ _ => trivial) (fun j i μ' R hi _ r => ?_) (.inl ?_)
    · have hm := ho.mem_iff.mpr (List.mem_of_getElem? hi)
      refine ⟨_, rfl, ⟨_, .inl rfl⟩, _, rfl, intsN os, (0 : Int) + i, pos os i, rfl, .l, ?_, fun m hm2 z => ?_, r⟩
      · unfold intsN
        rw [List.getElem?_map, (pos_at hm).1, Int.zero_add]
        rfl
      · obtain ⟨o, q1, q2⟩ := ints_get z
        exact (pos_at hm).2 m hm2 (by rw [q1]; exact congrArg some (by omega))
    rw [e2]
    refine ⟨_, rfl, _, _, .o, (by simp [ofStr_eq]), _, rfl, ns.length, gs.map (Gt.mv os), backO os ns.length, rfl, ok.mv ho, back_ord ho, _, rfl, fldN, [.i ns.length, .lst (gs.map Gt.da)], (by rw [eb2]; rfl), rfl, ⟨ns.length, gs, rfl, rfl⟩, ⟨true, rfl, ?_⟩⟩
    show (if true = true then _ else _)
    rw [if_pos rfl]
    exact ⟨_, rfl, _, rfl, ns, os, rfl, n1, n12, ho, .inl ⟨_, rfl, movedL os ns, backO os ns.length, rfl, by omega, by omega, hbM, .inl ⟨_, rfl, eqD_eq (by rw [moved_back ho]) (eqd_row _) (by decide) (.inl (h _ (m1.trans m2) pt2))⟩⟩⟩
def dsp_law_turned_right (C : Addr) : DSp := fun ds μ Q => ∃ (a : Addr) (n : Nat) (gs hs : List Gt) (ns : List Int), ds = [.r a, netD C n gs, netD C n hs, .i n, rowD ns] ∧ Pt a μ ∧ NetOk n gs ∧ NetOk n hs ∧ n ≤ 5 ∧ gs.length ≤ 15 ∧ hs.length ≤ 15 ∧ ns.length = n ∧ ∀ μ', Mf a μ μ' → Pt a μ' → Q (.b true) μ'
theorem c_law_turned_right (T : Txt K mg C) : C8.Cal P w K mg base 10 "_law_turned_right" (spD K (dsp_law_turned_right C)) [] := by
  obtain ⟨f, fd, D, b⟩ := T.d_law_turned_right
  obtain ⟨g, cO, cF⟩ := c_call (P := P) (w := w) (base := base) T
  obtain ⟨ag, ad, aF, aS, aI, aB⟩ := c_add (P := P) (w := w) (base := base) T
  obtain ⟨nf, nd, nF, nS, nI, nB⟩ := c_neg (P := P) (w := w) (base := base) T
  obtain ⟨eg, ed, eF, eS, eI, eB⟩ := c_eq (P := P) (w := w) (base := base) T
  have eN : PySem.W.findIn K (.ref C) "__ne__" = some (some (.builtin "object.__ne__")) ∧ PySem.W.mroIn K C (.type "object") = some true := ⟨T.q_ne, T.q_hm⟩
  refine ⟨f, fd, _, [], fnD (dsp := dsp_law_turned_right C) D.fn sc_law_turned_right (fun ds μ Q h => ?_) (fun cdv A outer s H E hr _ => ?_), D.mgf, D.kp, b, .nil⟩
  · obtain ⟨a, n, gs, hs, ns, rfl, _⟩ := h
    rfl
  · refine ⟨_, (pss_cons (ps_if (PW.pt (pw_or (pt_cmpR (op_neD hr.units) (StX.pe_callO (pe_un (un_own nF (hr.mono (by decide)) nS nI nB) (pv 1)) cO cF (hr.mono (by decide)) pass0 (pa_cons (C8.pe_c (c_turned T) hr (by decide) rfl (pa_cons (pv 4) pa_nil)) pa_nil)) (C8.pe_c (c_turned T) hr (by decide) rfl (pa_cons (StX.pe_callO (pv 1) cO cF (hr.mono (by decide)) pass0 (pa_cons (pv 4) pa_nil)) pa_nil)) (nomark _)) (pw_or (pt_cmpR (op_neO eF (hr.mono (by decide)) eS eI eB eN) (pe_un (un_own nF (hr.mono (by decide)) nS nI nB) (pe_un (un_own nF (hr.mono (by decide)) nS nI nB) (pv 1))) (pv 1) (nomark _)) (pw_or1 (pt_cmpR (op_neD hr.units) (C8.pe_c (c_turned T) hr (by decide) rfl (pa_cons (C8.pe_c (c_turned T) hr (by decide) rfl (pa_cons (pv 4) pa_nil)) pa_nil)) (pv 4) (nomark _))))))
       (pss_one (ps_ret pe_bl))
       pss_nil)
      (pss_cons (ps_set (i := 5) sc_law_turned_right.nd rfl (Or.inl rfl) (C8.pe_c (c_law_mixed T) hr (by decide) rfl (pa_cons (pv 0) (pa_cons (pe_listRg rfl (by rfl) T.b_list (prg_1 (by rfl) T.b_range (pv 3))) pa_nil))))
      (pss_cons (ps_if (PW.pt (pw_or (pt_cmpR (op_neO eF (hr.mono (by decide)) eS eI eB eN) (pe_un (un_own nF (hr.mono (by decide)) nS nI nB) (pe_op (op_own2 aF (hr.mono (by decide)) T.o_first aS aI aB) (pv 1) (pv 2))) (pe_op (op_own2 aF (hr.mono (by decide)) T.o_first aS aI aB) (pe_un (un_own nF (hr.mono (by decide)) nS nI nB) (pv 1)) (pe_un (un_own nF (hr.mono (by decide)) nS nI nB) (pv 2))) (nomark _)) (pw_or1 (pt_cmpR (op_neO eF (hr.mono (by decide)) eS eI eB eN) (C8.pe_mt (m_renumbered T) hr (by decide) (pe_un (un_own nF (hr.mono (by decide)) nS nI nB) (pv 1)) (pa_cons (pv 5) pa_nil)) (pe_un (un_own nF (hr.mono (by decide)) nS nI nB) (C8.pe_mt (m_renumbered T) hr (by decide) (pv 1) (pa_cons (pv 5) pa_nil))) (nomark _)))))
       (pss_one (ps_ret pe_bl))
       pss_nil)
      (pss_one (ps_ret (pe_cmpR (op_eqG (rcG_ins eF eS eI eB pass0) (hr.mono (by decide))) (C8.pe_mt (m_beside T) hr (by decide) (pe_un (un_own nF (hr.mono (by decide)) nS nI nB) (pv 1)) (pa_cons (pe_un (un_own nF (hr.mono (by decide)) nS nI nB) (pv 2)) pa_nil)) (pe_un (un_own nF (hr.mono (by decide)) nS nI nB) (C8.pe_mt (m_beside T) hr (by decide) (pv 1) (pa_cons (pv 2) pa_nil))) (nomark _))))))), ?_⟩
    dsimp only [cxOf, Cx.nox]
    refine ⟨_, inferInstance, fun ds μ Q h => ?_⟩
    obtain ⟨a, n, gs, hs, ns, rfl, pt, ok, ok', n5, hl, hl', hn, h⟩ := h
    have n1 := ok.low
    have n12 := ok.high
    have ct : ∀ r : List Int, r.length = n → Ct (rowD r) r := fun r e => ⟨.inl rfl, by omega, by omega⟩
    have lR : (runs gs ns).length = n := by rw [runs_length]; exact hn
    have lT : (turnedL ns).length = n := (List.length_map ..).trans hn
    have okgh : NetOk n (gs ++ hs) := ok.app ok' (by omega)
    have okb : NetOk (n + n) (gs ++ hs.map (Gt.sh n n)) := ok.sh ok' (by omega) (by omega)
    have lt : (gs.map Gt.tn).length + (hs.map Gt.tn).length ≤ 400 := by rw [List.length_map, List.length_map]; omega
    have ett : (gs.map Gt.tn).map Gt.tn = gs := by
      rw [List.map_map]
      exact (List.map_congr_left fun g _ => tn_tn g).trans (List.map_id _)
    have hg : ∀ g ∈ gs, g.ok ns.length := by rw [hn]; exact ok.ok
    refine ⟨_, rfl, _, _, .o, n, gs, rfl, ok, _, _, .o, _, rfl, ns, rfl, by omega, by omega, .inl ⟨⟨_, _, .o⟩, n, gs.map Gt.tn, _, turnedL ns, rfl, ok.tn, ct _ lT, lT, .inl ⟨_, rfl, _, _, .o, _, rfl, ⟨_, _, .o⟩, n, gs, _, ns, rfl, ok, ct ns hn, hn, .inl ⟨runs gs ns, rfl, by omega, by omega, .inl (eqD_eq (by rw [runs_tn hg]) (eqd_row _) (by decide) ⟨false, rfl, ?_⟩)⟩⟩⟩⟩
    show (if false = true then _ else _)
    rw [if_neg Bool.false_ne_true]
    refine ⟨_, rfl, _, _, .o, n, gs, rfl, ok, _, _, .o, n, gs.map Gt.tn, rfl, ok.tn, _, rfl, fldN, [.i n, .lst (gs.map Gt.da)], (by rw [ett]; rfl), rfl, ⟨n, gs, rfl, rfl⟩, ⟨false, rfl, ?_⟩⟩
    show (if false = true then _ else _)
    rw [if_neg Bool.false_ne_true]
    refine ⟨_, rfl, ns, rfl, by omega, by omega, .inl ⟨turnedL ns, rfl, by omega, by omega, .inl ⟨_, rfl, eqD_eq (by rw [turned_turned]) (eqd_row _) (by decide) ⟨false, rfl, ?_⟩⟩⟩⟩
    show (if false = true then _ else _)
    rw [if_neg Bool.false_ne_true]
    refine ⟨_, rfl, _, rfl, (n : Int), rfl, by omega, by omega, .inl ⟨a, n, (by rw [Int.toNat_natCast, rgD_ints]), pt, n12, fun os μ1 m1 pt1 ho => ?_⟩⟩
    refine ⟨_, rfl, _, rfl, _, _, _, _, .o, .o, n, gs, hs, rfl, ok, ok', by omega, _, _, .o, n, gs ++ hs, rfl, okgh, _, rfl, _, _, .o, n, gs, rfl, ok, _, rfl, _, _, .o, n, hs, rfl, ok', _, _, _, _, .o, .o, n, gs.map Gt.tn, hs.map Gt.tn, rfl, ok.tn, ok'.tn, lt, fldN, [.i n, .lst ((gs.map Gt.tn ++ hs.map Gt.tn).map Gt.da)], (by rw [List.map_append]; rfl), rfl, ⟨n, _, rfl, rfl⟩, ⟨false, rfl, ?_⟩⟩
    show (if false = true then _ else _)
    rw [if_neg Bool.false_ne_true]
    refine ⟨_, rfl, _, _, .o, n, gs, rfl, ok, _, _, .o, (by simp [ofStr_eq]), _, rfl, n, gs.map Gt.tn, os, rfl, ok.tn, ho, _, rfl, _, _, .o, (by simp [ofStr_eq]), _, rfl, n, gs, os, rfl, ok, ho, _, _, .o, n, gs.map (Gt.mv os), rfl, ok.mv ho, fldN, [.i n, .lst (((gs.map (Gt.mv os)).map Gt.tn).map Gt.da)], (by rw [show (gs.map Gt.tn).map (Gt.mv os) = (gs.map (Gt.mv os)).map Gt.tn by rw [List.map_map, List.map_map]; exact List.map_congr_left fun g _ => tn_mv.symm]; rfl), rfl, ⟨n, _, rfl, rfl⟩, ⟨false, rfl, ?_⟩⟩
    show (if false = true then _ else _)
    rw [if_neg Bool.false_ne_true]
    exact ⟨_, rfl, _, _, .o, n, gs, rfl, ok, _, _, .o, (by simp [ofStr_eq]), _, rfl, _, _, .o, n, hs, rfl, ok', n, n, gs.map Gt.tn, hs.map Gt.tn, rfl, ok.tn, ok'.tn, by omega, lt, _, rfl, _, _, .o, (by simp [ofStr_eq]), _, rfl, n, n, gs, hs, rfl, ok, ok', by omega, by omega, _, _, .o, n + n, gs ++ hs.map (Gt.sh n n), rfl, okb, fldN, [.i ((n + n : Nat) : Int), .lst (((gs ++ hs.map (Gt.sh n n)).map Gt.tn).map Gt.da)], (by rw [show gs.map Gt.tn ++ (hs.map Gt.tn).map (Gt.sh n n) = (gs ++ hs.map (Gt.sh n n)).map Gt.tn by rw [List.map_append, List.map_map, List.map_map]; exact congrArg (gs.map Gt.tn ++ ·) (List.map_congr_left fun g _ => (tn_mv (g := g) (os := List.range' n n)).symm)]; rfl), rfl, ⟨n + n, _, rfl, rfl⟩, .inl (h _ m1 pt1)⟩
end
end LL

set_option synthInstance.maxSize 100000
set_option synthInstance.maxHeartbeats 4000000
namespace LL
open PySem L2 PySem.Spec PyProof.Rows
def addAll (n : Nat) (z : Int) : List Gt := (List.range n).map fun i => Gt.add i z
theorem addAll_ok {n : Nat} {z : Int} (h1 : 1 ≤ n) (h2 : n ≤ 12) : NetOk n (addAll n z) := ⟨h1, h2, fun g hg => by
  obtain ⟨i, hi, rfl⟩ := List.mem_map.mp hg
  exact List.mem_range.mp hi, by unfold addAll; rw [List.length_map, List.length_range]; omega⟩
theorem adds_at {ns : List Int} {z : Int} : ∀ k, k ≤ ns.length → ∀ i, i < ns.length → at0 (runs (addAll k z) ns) i = if i < k then at0 ns i + z else at0 ns i
  | 0, _, i, _ => by
    rw [if_neg (by omega)]
    rfl
  | k + 1, h, i, hi => by
    have e : addAll (k + 1) z = addAll k z ++ [.add k z] := by
      unfold addAll
      rw [List.range_succ, List.map_append]
      rfl
    rw [e, runs_app]
    show at0 ((runs (addAll k z) ns).set k (at0 (runs (addAll k z) ns) k + z)) i = _
    rw [at0_set (by rw [runs_length]; omega), adds_at k (by omega) k (by omega), adds_at k (by omega) i hi, if_neg (by omega : ¬ k < k)]
    by_cases q : i = k
    · rw [if_pos q, if_pos (by omega), q]
    · rw [if_neg q]
      by_cases q2 : i < k
      · rw [if_pos q2, if_pos (by omega)]
      · rw [if_neg q2, if_neg (by omega)]
theorem runs_addAll {ns : List Int} {n : Nat} {z : Int} (hn : ns.length = n) : runs (addAll n z) ns = raisedL ns z := by
  subst hn
  refine at0_ext (by rw [runs_length]; exact (List.length_map ..).symm) fun i hi => ?_
  rw [runs_length] at hi
  rw [adds_at _ (Nat.le_refl _) i hi, if_pos hi, at0_raised hi]
theorem places_end {C a : Addr} {n k : Nat} {gs : List Gt} {ns : List Int} {μ : Mu} {Q : DP} {x5 x6 x7 x8 x9 x10 : Option Da} (ok : NetOk n gs) (hl : gs.length ≤ 15) (hn : ns.length = n) (pt2 : Pt a μ) (h : ∀ μ', Mf a μ μ' → Pt a μ' → Q (.b true) μ') :
    (dSeq
    (dAsg (dOp (dI0 fun i j => V.int (i - j)) (dCall dsp_law_draw (dCons (dVar 0) (dCons (dC (Da.i 41)) dNil))) (dC (Da.i 20))) (dName 11))
    (dSeq
      (dAsg
        (dLst
          (dCons
            (dOp (dOwn2 C (dsp_Net_add C))
              (dMake C (dsp_Net_init C)
                (dCons (dVar 2)
                  (dCons
                    (dLc [15] (List.map (fun x => x.snd) [((Str.ofString "_law_lane"), 15)]) (dIRng1 (dCons (dVar 2) dNil)) (dName 15) dYes
                      (dTup (dCons (dC (Da.s (Str.ofString "add"))) (dCons (dVar 15) (dCons (dVar 11) dNil)))))
                    dNil)))
              (dVar 1))
            (dCons (dVar 1) dNil)))
        (dName 12))
      (dSeq
        (dAsg (dCall dsp_raised (dCons (dCallO C (dsp_Net_call C) (dVar 1) (dCons (dVar 3) dNil)) (dCons (dVar 11) dNil))) (dName 13))
        (dRet
          (dOp (dEqD id)
            (dLc ([14] ++ ([8] ++ [])) (List.map (fun x => x.snd) [((Str.ofString "_law_step_now"), 14), ((Str.ofString "_law_here"), 8)])
              (dIZip (dCons (dVar 12) (dCons (dLst (dCons (dVar 3) (dCons (dCall dsp_raised (dCons (dVar 3) (dCons (dVar 11) dNil))) dNil))) dNil)))
              (dgTup 2 (dgCons (dName 14) (dgCons (dName 8) dgNil))) dYes (dCallO C (dsp_Net_call C) (dVar 14) (dCons (dVar 8) dNil)))
            (dLst (dCons (dVar 13) (dCons (dVar 13) dNil)))))))) (endD Q) [some (.r a), some (netD C n gs), some (.i n), some (rowD ns), some (.i k), x5, x6, x7, x8, x9, x10, none, none, none, none, none] μ := by
    have n1 := ok.low
    have n12 := ok.high
    have ct : ∀ r : List Int, r.length = n → Ct (rowD r) r := fun r e => ⟨.inl rfl, by omega, by omega⟩
    refine ⟨_, rfl, a, 41, rfl, pt2, by decide, by decide, fun e μ3 f3 pt3 _ _ => ⟨_, _, rfl, rfl, ?_⟩⟩
    have okA : NetOk n (addAll n (e - 20)) := addAll_ok n1 n12
    have okAg : NetOk n (addAll n (e - 20) ++ gs) := okA.app ok (by unfold addAll; rw [List.length_map, List.length_range]; omega)
    refine ⟨_, rfl, by decide, _, rfl, (n : Int), rfl, by omega, by omega, ?_⟩
    rw [Int.toNat_natCast]
    refine lcMap (xs := List.range n) (ψ := fun i => (Gt.add i (e - 20)).da) (by rw [List.length_range]; omega) (fun _ _ => trivial) (fun j i μ' R hi _ r => ⟨_, rfl, _, rfl, (by show 3 ≤ sizeLine; decide), (by rw [Int.zero_add]; exact r)⟩) (.inl ?_)
    intro q hq
    refine ⟨q, _, n, addAll n (e - 20), rfl, setM_at, .inl (by unfold addAll; rw [List.map_map]; rfl), okA, rfl, _, _, setM_at, .inl ?_⟩
    rw [setM_setM, remM_setM hq]
    clear hq q
    refine ⟨_, rfl, _, _, _, _, .o, .o, n, addAll n (e - 20), gs, rfl, okA, ok, (by unfold addAll; rw [List.length_map, List.length_range]; omega), _, rfl, (by show 2 ≤ sizeLine; decide), .inl ?_⟩
    have lR : (runs gs ns).length = n := by rw [runs_length]; exact hn
    refine ⟨_, rfl, _, _, .o, _, rfl, ⟨_, _, .o⟩, n, gs, _, ns, rfl, ok, ct ns hn, hn, .inl ⟨_, rfl, runs gs ns, e - 20, rfl, by omega, by omega, .inl ?_⟩⟩
    refine ⟨by decide, _, rfl, _, rfl, _, rfl, _, rfl, ns, e - 20, rfl, by omega, by omega, .inl ⟨(by show 2 ≤ sizeLine; decide), .inl ⟨_, _, _, _, _, _, rfl, .l, .l, trivial, trivial, ?_⟩⟩⟩
    have all : ∀ p ∈ [(addAll n (e - 20) ++ gs, ns), (gs, raisedL ns (e - 20))], NetOk n p.1 ∧ p.2.length = n := fun p hp => by
      simp only [List.mem_cons, List.not_mem_nil, or_false] at hp
      rcases hp with rfl | rfl
      · exact ⟨okAg, hn⟩
      · exact ⟨ok, (List.length_map ..).trans hn⟩
    refine lcMap (xs := [(addAll n (e - 20) ++ gs, ns), (gs, raisedL ns (e - 20))]) (φ := fun p => Da.tup [netD C n p.1, rowD p.2]) (ψ := fun p => rowD (runs p.1 p.2)) (by show 2 < 100000; decide) (fun _ _ => ⟨trivial, trivial⟩) (fun j p μ' R hi _ r => ?_) (.inl ?_)
    · obtain ⟨o1, o2⟩ := all p (List.mem_of_getElem? hi)
      obtain ⟨p1, p2⟩ := p
      refine ⟨[netD C n p1, rowD p2], rfl, rfl, _, _, rfl, _, _, rfl, rfl, ?_⟩
      refine ⟨netD C n p1, rfl, _, _, .o, rowD p2, rfl, ⟨_, _, .o⟩, ?_⟩
      exact ⟨n, p1, _, p2, rfl, o1, ct _ o2, o2, .inl r⟩
    · have e1 : runs (addAll n (e - 20) ++ gs) ns = raisedL (runs gs ns) (e - 20) := by rw [runs_app, runs_addAll hn, runs_raised (by rw [hn]; exact ok.ok)]
      have e2 : runs gs (raisedL ns (e - 20)) = raisedL (runs gs ns) (e - 20) := runs_raised (by rw [hn]; exact ok.ok)
      refine ⟨_, rfl, _, rfl, (by show 2 ≤ sizeLine; decide), .inl (eqD_eq ?_ (eqd_rows [raisedL (runs gs ns) (e - 20), raisedL (runs gs ns) (e - 20)]) (by decide) (.inl (h _ f3.mf pt3)))⟩
      show Da.lst [rowD (runs (addAll n (e - 20) ++ gs) ns), rowD (runs gs (raisedL ns (e - 20)))] = _
      rw [e1, e2]

theorem places_one {C a : Addr} {n k : Nat} {gs : List Gt} {ns : List Int} {μ : Mu} {E : DEnds} {x5 x6 x7 x9 : Option Da} (ok : NetOk n gs) (hl : gs.length ≤ 15) (hn : ns.length = n) (hk : k ≤ gs.length) (q : E.nx [some (.r a), some (netD C n gs), some (.i n), some (rowD ns), some (.i k), x5, x6, x7, some (rowD (runs (gs.take k) ns)), x9, none, none, none, none, none, none] μ) :
    (dIfS
      (dAnd (dTest (dOp (dI0 fun i j => V.bl (decide (i < j))) (dVar 4) (dCB (dLenO C (dsp_Net_len C)) (dCons (dVar 1) dNil))))
        (dTest
          (dOp (dEqD fun x => !x) (dCallO C (dsp_Net_call C) (dMeth C (Str.ofString "without") (dsp_Net_without C) (dVar 1) (dCons (dVar 4) dNil)) (dCons (dVar 3) dNil))
            (dCallO C (dsp_Net_call C) (dOp dIxT (dMeth C (Str.ofString "cut") (dsp_Net_cut C) (dVar 1) (dCons (dOp (dI0 fun i j => V.int (i + j)) (dVar 4) (dC (Da.i 1))) dNil)) (dC (Da.i 1))) (dCons (dVar 8) dNil)))))
      (dRet (dC (Da.b false))) dNext) E [some (.r a), some (netD C n gs), some (.i n), some (rowD ns), some (.i k), x5, x6, x7, some (rowD (runs (gs.take k) ns)), x9, none, none, none, none, none, none] μ := by
    have n1 := ok.low
    have n12 := ok.high
    have ct : ∀ r : List Int, r.length = n → Ct (rowD r) r := fun r e => ⟨.inl rfl, by omega, by omega⟩
    have lk : (runs (gs.take k) ns).length = n := by rw [runs_length]; exact hn
    refine ⟨_, rfl, _, rfl, _, _, _, rfl, .o, n, gs, rfl, _, rfl, by omega, by omega, _, _, rfl, rfl, _, rfl, ?_⟩
    by_cases c : (k : Int) < (gs.length : Int)
    · rw [decide_eq_true c]
      show (if true = true then _ else _)
      rw [if_pos rfl]
      have ok6 : NetOk n (gs.take k ++ gs.drop (k + 1)) := ok.take.app ok.drop (by rw [List.length_take, List.length_drop]; omega)
      refine ⟨_, rfl, _, _, .o, (by simp [ofStr_eq]), _, rfl, n, k, gs, rfl, ok, by omega, _, _, .o, _, rfl, ⟨_, _, .o⟩, n, gs.take k ++ gs.drop (k + 1), _, ns, rfl, ok6, ct ns hn, hn, .inl ⟨_, rfl, _, _, .o, (by simp [ofStr_eq]), _, rfl, _, _, rfl, rfl, n, k + 1, gs, congrArg (fun x : Int => [netD C n gs, Da.i x]) (by omega : (k : Int) + 1 = ((k + 1 : Nat) : Int)), ok, by omega, _, _, _, rfl, rfl, rfl, _, _, .o, _, rfl, ⟨_, _, .o⟩, n, gs.drop (k + 1), _, runs (gs.take k) ns, rfl, ok.drop, ct _ lk, lk, .inl (eqD_eq (by rw [runs_app]) (eqd_row _) (by decide) ⟨false, rfl, ?_⟩)⟩⟩
      show (if false = true then _ else _)
      rw [if_neg Bool.false_ne_true]
      exact q
    · rw [decide_eq_false c]
      show (if false = true then _ else _)
      rw [if_neg Bool.false_ne_true]
      show (if false = true then _ else _)
      rw [if_neg Bool.false_ne_true]
      exact q
theorem places_two {C a : Addr} {n k : Nat} {gs : List Gt} {ns : List Int} {μ : Mu} {K : PySem.W.Frag} {E : DEnds} {x5 x6 x7 x9 : Option Da} (ok : NetOk n gs) (hl : gs.length ≤ 15) (hn : ns.length = n) (hk : k ≤ gs.length) (q : ∀ x10, E.nx [some (.r a), some (netD C n gs), some (.i n), some (rowD ns), some (.i k), x5, x6, x7, some (rowD (runs (gs.take k) ns)), x9, x10, none, none, none, none, none] μ) :
    (dIfS
      (dTest (dOp (dI0 fun i j => V.bl (decide (i < j))) (dVar 4) (dOp (dI0 fun i j => V.int (i - j)) (dCB (dLenO C (dsp_Net_len C)) (dCons (dVar 1) dNil)) (dC (Da.i 1)))))
      (dSeq
        (dAsg
          (dCMeth C (dsp_ofs C) (dCR K C)
            (dCons (dVar 2) (dCons (dOp (dIxO C (dsp_Net_getitem C)) (dVar 1) (dOp (dI0 fun i j => V.int (i + j)) (dVar 4) (dC (Da.i 1)))) (dCons (dOp (dIxO C (dsp_Net_getitem C)) (dVar 1) (dVar 4)) dNil))))
          (dName 10))
        (dIfS
          (dTest
            (dOp (dEqD fun x => !x) (dCallO C (dsp_Net_call C) (dMeth C (Str.ofString "exchanged") (dsp_Net_exchanged C) (dVar 1) (dCons (dVar 4) dNil)) (dCons (dVar 3) dNil))
              (dCallO C (dsp_Net_call C) (dOp dIxT (dMeth C (Str.ofString "cut") (dsp_Net_cut C) (dVar 1) (dCons (dOp (dI0 fun i j => V.int (i + j)) (dVar 4) (dC (Da.i 2))) dNil)) (dC (Da.i 1)))
                (dCons (dCallO C (dsp_Net_call C) (dVar 10) (dCons (dVar 8) dNil)) dNil))))
          (dRet (dC (Da.b false))) dNext))
      dNext) E [some (.r a), some (netD C n gs), some (.i n), some (rowD ns), some (.i k), x5, x6, x7, some (rowD (runs (gs.take k) ns)), x9, none, none, none, none, none, none] μ := by
    have n1 := ok.low
    have n12 := ok.high
    have ct : ∀ r : List Int, r.length = n → Ct (rowD r) r := fun r e => ⟨.inl rfl, by omega, by omega⟩
    have lk : (runs (gs.take k) ns).length = n := by rw [runs_length]; exact hn
    refine ⟨_, rfl, _, rfl, _, _, _, rfl, .o, n, gs, rfl, _, rfl, by omega, by omega, _, _, rfl, rfl, _, _, rfl, rfl, _, rfl, ?_⟩
    by_cases c2 : (k : Int) < (gs.length : Int) - 1
    · rw [decide_eq_true c2]
      show (if true = true then _ else _)
      rw [if_pos rfl]
      have k1 : k < gs.length := by omega
      have k2 : k + 1 < gs.length := by omega
      have o2 : NetOk n [gs[k + 1], gs[k]] := ⟨n1, n12, fun x hx => by
        simp only [List.mem_cons, List.not_mem_nil, or_false] at hx
        rcases hx with rfl | rfl <;> exact ok.ok _ (List.getElem_mem _), by show 2 ≤ 400; decide⟩
      have lp : (runs [gs[k + 1], gs[k]] (runs (gs.take k) ns)).length = n := by rw [runs_length]; exact lk
      have ok5 : NetOk n (gs.take k ++ [gs[k + 1], gs[k]] ++ gs.drop (k + 2)) := (ok.take.app o2 (by rw [List.length_take]; show min k gs.length + 2 ≤ 400; omega)).app ok.drop (by rw [List.length_append, List.length_take, List.length_drop]; show min k gs.length + 2 + (gs.length - (k + 2)) ≤ 400; omega)
      refine .inl ⟨rfl, _, rfl, _, rfl, _, rfl, _, _, rfl, rfl, _, _, .o, n, k + 1, gs, gs[k + 1], congrArg (fun x : Int => [netD C n gs, Da.i x]) (by omega : (k : Int) + 1 = ((k + 1 : Nat) : Int)), List.getElem?_eq_getElem k2, _, rfl, _, rfl, _, _, .o, n, k, gs, gs[k], rfl, List.getElem?_eq_getElem k1, n, [gs[k + 1], gs[k]], rfl, o2, ?_⟩
      refine ⟨_, rfl, _, _, .o, (by simp [ofStr_eq]), _, rfl, n, k, gs, gs[k], gs[k + 1], rfl, ok, List.getElem?_eq_getElem k1, List.getElem?_eq_getElem k2, _, _, .o, _, rfl, ⟨_, _, .o⟩, n, gs.take k ++ [gs[k + 1], gs[k]] ++ gs.drop (k + 2), _, ns, rfl, ok5, ct ns hn, hn, .inl ⟨_, rfl, _, _, .o, (by simp [ofStr_eq]), _, rfl, _, _, rfl, rfl, n, k + 2, gs, congrArg (fun x : Int => [netD C n gs, Da.i x]) (by omega : (k : Int) + 2 = ((k + 2 : Nat) : Int)), ok, by omega, _, _, _, rfl, rfl, rfl, _, _, .o, _, rfl, _, _, .o, _, rfl, ⟨_, _, .o⟩, n, [gs[k + 1], gs[k]], _, runs (gs.take k) ns, rfl, o2, ct _ lk, lk, .inl ⟨⟨_, _, .o⟩, n, gs.drop (k + 2), _, runs [gs[k + 1], gs[k]] (runs (gs.take k) ns), rfl, ok.drop, ct _ lp, lp, .inl (eqD_eq (by rw [runs_app, runs_app]) (eqd_row _) (by decide) ⟨false, rfl, ?_⟩)⟩⟩⟩
      show (if false = true then _ else _)
      rw [if_neg Bool.false_ne_true]
      exact q _
    · rw [decide_eq_false c2]
      show (if false = true then _ else _)
      rw [if_neg Bool.false_ne_true]
      exact q _

end LL

set_option synthInstance.maxSize 100000
set_option synthInstance.maxHeartbeats 4000000
namespace LL
open PySem L2 PySem.Spec PyProof.Rows
section
variable {P : Program} {w : World} {K : PySem.W.Frag} {mg : Str → Option Value} {base : Heap} {C : Addr}
def dsp_law_places_right (C : Addr) : DSp := fun ds μ Q => ∃ (a : Addr) (n : Nat) (gs : List Gt) (ns : List Int), ds = [.r a, netD C n gs, .i n, rowD ns] ∧ Pt a μ ∧ NetOk n gs ∧ gs.length ≤ 15 ∧ ns.length = n ∧ ∀ μ', Mf a μ μ' → Pt a μ' → Q (.b true) μ'
theorem c_law_places_right (T : Txt K mg C) : C8.Cal P w K mg base 10 "_law_places_right" (spD K (dsp_law_places_right C)) [] := by
  obtain ⟨f, fd, D, b⟩ := T.d_law_places_right
  obtain ⟨g, cO, cF⟩ := c_call (P := P) (w := w) (base := base) T
  obtain ⟨ag, ad, aF, aS, aI, aB⟩ := c_add (P := P) (w := w) (base := base) T
  obtain ⟨mc, op, og, oR, oM, oF⟩ := c_of (P := P) (w := w) (base := base) T
  obtain ⟨lf, ld, lF, lS, lI, lB⟩ := c_len (P := P) (w := w) (base := base) T
  obtain ⟨gf, gd, gF, gS, gI, gN, gB⟩ := c_getitem (P := P) (w := w) (base := base) T
  refine ⟨f, fd, _, [], fnD (dsp := dsp_law_places_right C) D.fn sc_law_places_right (fun ds μ Q h => ?_) (fun cdv A outer s H E hr _ => ?_), D.mgf, D.kp, b, .nil⟩
  · obtain ⟨a, n, gs, ns, rfl, _⟩ := h
    rfl
  · refine ⟨_, (pss_cons (ps_par (i := 4) (j := 5) (by rfl) sc_law_places_right.nd rfl rfl (by decide) rfl rfl (pa_cons (C8.pe_c (c_law_draw T) hr (by decide) rfl (pa_cons (pv 0) (pa_cons (pe_op op_add (pe_callB (call_lenO lF (hr.mono (by decide)) lS lI lB) (by rfl) T.b_len (by decide +kernel) (pa_cons (pv 1) pa_nil)) pe_int) pa_nil))) (pa_cons (C8.pe_c (c_law_gate T) hr (by decide) rfl (pa_cons (pv 0) (pa_cons (pv 2) pa_nil))) pa_nil)) (by rfl))
      (pss_cons (ps_asg (C8.pe_mt (m_cut T) hr (by decide) (pv 1) (pa_cons (pv 4) pa_nil)) (pg_tup (n := 2) rfl (pgs_cons (pg_name (i := 6) sc_law_places_right.nd rfl (Or.inl rfl)) (pgs_cons (pg_name (i := 7) sc_law_places_right.nd rfl (Or.inl rfl)) pgs_nil))))
      (pss_cons (ps_par (i := 8) (j := 9) (by rfl) sc_law_places_right.nd rfl rfl (by decide) rfl rfl (pa_cons (StX.pe_callO (pv 6) cO cF (hr.mono (by decide)) pass0 (pa_cons (pv 3) pa_nil)) (pa_cons (ClX.pe_cmeth (C8.pe_gc (v := .ref C) rfl ⟨_, T.mgC, rfl⟩) oR oM oF (hr.mono (by decide)) (C8.pass0 (E := C8.E0)) (pa_cons (pv 2) (pa_cons (pv 5) pa_nil))) pa_nil)) (by rfl))
      (pss_cons (ps_if (pt_cmpR (op_neD hr.units) (StX.pe_callO (C8.pe_mt (m_with_gate T) hr (by decide) (pv 1) (pa_cons (pv 4) (pa_cons (pv 5) pa_nil))) cO cF (hr.mono (by decide)) pass0 (pa_cons (pv 3) pa_nil)) (StX.pe_callO (pv 7) cO cF (hr.mono (by decide)) pass0 (pa_cons (StX.pe_callO (pv 9) cO cF (hr.mono (by decide)) pass0 (pa_cons (pv 8) pa_nil)) pa_nil)) (nomark _))
       (pss_one (ps_ret pe_bl))
       pss_nil)
      (pss_cons (ps_if (PW.pt (pw_and (pt_cmpR op_lt (pv 4) (pe_callB (call_lenO lF (hr.mono (by decide)) lS lI lB) (by rfl) T.b_len (by decide +kernel) (pa_cons (pv 1) pa_nil)) (nomark _)) (pw_and1 (pt_cmpR (op_neD hr.units) (StX.pe_callO (C8.pe_mt (m_without T) hr (by decide) (pv 1) (pa_cons (pv 4) pa_nil)) cO cF (hr.mono (by decide)) pass0 (pa_cons (pv 3) pa_nil)) (StX.pe_callO (pe_ix ix_tup (C8.pe_mt (m_cut T) hr (by decide) (pv 1) (pa_cons (pe_op op_add (pv 4) pe_int) pa_nil)) pe_int (fun _ _ => rfl)) cO cF (hr.mono (by decide)) pass0 (pa_cons (pv 8) pa_nil)) (nomark _)))))
       (pss_one (ps_ret pe_bl))
       pss_nil)
      (pss_cons (ps_if (pt_cmpR op_lt (pv 4) (pe_op op_sub (pe_callB (call_lenO lF (hr.mono (by decide)) lS lI lB) (by rfl) T.b_len (by decide +kernel) (pa_cons (pv 1) pa_nil)) pe_int) (nomark _))
       (pss_cons (ps_set (i := 10) sc_law_places_right.nd rfl (Or.inl rfl) (ClX.pe_cmeth (C8.pe_gc (v := .ref C) rfl ⟨_, T.mgC, rfl⟩) oR oM oF (hr.mono (by decide)) (C8.pass0 (E := C8.E0)) (pa_cons (pv 2) (pa_cons (pe_ixO gF (hr.mono (by decide)) gS gI gN gB (pv 1) (pe_op op_add (pv 4) pe_int) (fun _ _ => rfl)) (pa_cons (pe_ixO gF (hr.mono (by decide)) gS gI gN gB (pv 1) (pv 4) (fun _ _ => rfl)) pa_nil)))))
        (pss_one (ps_if (pt_cmpR (op_neD hr.units) (StX.pe_callO (C8.pe_mt (m_exchanged T) hr (by decide) (pv 1) (pa_cons (pv 4) pa_nil)) cO cF (hr.mono (by decide)) pass0 (pa_cons (pv 3) pa_nil)) (StX.pe_callO (pe_ix ix_tup (C8.pe_mt (m_cut T) hr (by decide) (pv 1) (pa_cons (pe_op op_add (pv 4) pe_int) pa_nil)) pe_int (fun _ _ => rfl)) cO cF (hr.mono (by decide)) pass0 (pa_cons (StX.pe_callO (pv 10) cO cF (hr.mono (by decide)) pass0 (pa_cons (pv 8) pa_nil)) pa_nil)) (nomark _))
         (pss_one (ps_ret pe_bl))
         pss_nil)))
       pss_nil)
      (pss_cons (ps_set (i := 11) sc_law_places_right.nd rfl (Or.inr rfl) (pe_op op_sub (C8.pe_c (c_law_draw T) hr (by decide) rfl (pa_cons (pv 0) (pa_cons pe_int pa_nil))) pe_int))
      (pss_cons (ps_set (i := 12) sc_law_places_right.nd rfl (Or.inl rfl) (pe_lst (pa_cons (pe_op (op_own2 aF (hr.mono (by decide)) T.o_first aS aI aB) (C8.pe_mk (c_Net T) hr (by decide) rfl (pa_cons (pv 2) (pa_cons (pe_lc (own := [("_law_lane", 15)]) (g := (gName 15)) (tt := tYes) rfl sc_law_places_right.nd (pi_range1 rfl T.b_range (pa_cons (pv 2) pa_nil)) (blkOk_by (N := N_law_places_right) (sc := C8.fnScope s_law_places_right) (by decide +kernel)) (fun _ _ _ _ _ => (pg_name (i := 15) sc_law_places_right.nd rfl (Or.inl rfl))) (fun _ _ _ _ _ => pts_nil) (fun _ _ _ _ _ => (pe_tup (pa_cons pe_str (pa_cons (pv 15) (pa_cons (pv 11) pa_nil)))))) pa_nil))) (pv 1)) (pa_cons (pv 1) pa_nil))))
      (pss_cons (ps_set (i := 13) sc_law_places_right.nd rfl (Or.inl rfl) (C8.pe_c (c_raised T) hr (by decide) rfl (pa_cons (StX.pe_callO (pv 1) cO cF (hr.mono (by decide)) pass0 (pa_cons (pv 3) pa_nil)) (pa_cons (pv 11) pa_nil))))
      (pss_one (ps_ret (pe_cmpR (op_eqD hr.units) (pe_lc (own := [("_law_step_now", 14), ("_law_here", 8)]) (g := (gTup K 2 (gCons (gName 14) (gCons (gName 8) gNil)))) (tt := tYes) (te := (tCallI C (spD K (dsp_Net_call C)) (tVar 14) (tCons (tVar 8) tNil))) rfl sc_law_places_right.nd (pi_zip (by rfl) T.b_zip (pa_cons (pv 12) (pa_cons (pe_lst (pa_cons (pv 3) (pa_cons (C8.pe_c (c_raised T) hr (by decide) rfl (pa_cons (pv 3) (pa_cons (pv 11) pa_nil))) pa_nil))) pa_nil))) (blkOk_by (N := N_law_places_right) (sc := C8.fnScope s_law_places_right) (by decide +kernel)) (fun _ _ _ _ _ => (pg_tup (n := 2) rfl (pgs_cons (pg_name (i := 14) sc_law_places_right.nd rfl (Or.inl rfl)) (pgs_cons (pg_name (i := 8) sc_law_places_right.nd rfl (Or.inl rfl)) pgs_nil)))) (fun _ _ _ _ _ => pts_nil) (fun _ _ _ _ _ => (pe_callI (pv 14) cO cF (hr.mono (by decide)) (pa_cons (pv 8) pa_nil)))) (pe_lst (pa_cons (pv 13) (pa_cons (pv 13) pa_nil))) (nomark _))))))))))))), ?_⟩
    dsimp only [cxOf, Cx.nox]
    refine ⟨_, inferInstance, fun ds μ Q h => ?_⟩
    obtain ⟨a, n, gs, ns, rfl, pt, ok, hl, hn, h⟩ := h
    have n1 := ok.low
    have n12 := ok.high
    have ct : ∀ r : List Int, r.length = n → Ct (rowD r) r := fun r e => ⟨.inl rfl, by omega, by omega⟩
    refine ⟨_, rfl, _, rfl, _, _, _, rfl, .o, n, gs, rfl, _, rfl, by omega, by omega, _, _, rfl, rfl, a, _, rfl, pt, by omega, by omega, fun d μ1 f1 pt1 d0 d1 => ?_⟩
    obtain ⟨k, rfl⟩ := Int.eq_ofNat_of_zero_le d0
    have hk : k ≤ gs.length := by omega
    refine ⟨_, rfl, _, rfl, a, n, rfl, pt1, n1, n12, fun w0 μ2 f2 pt2 hg hm => ⟨_, _, rfl, ?_⟩⟩
    have o1 : NetOk n [w0] := ⟨n1, n12, fun x hx => by rw [List.mem_singleton.mp hx]; exact hg, by show 1 ≤ 400; decide⟩
    have lk : (runs (gs.take k) ns).length = n := by rw [runs_length]; exact hn
    have lw : (runs [w0] (runs (gs.take k) ns)).length = n := by rw [runs_length]; exact lk
    have ok4 : NetOk n (gs.take k ++ [w0] ++ gs.drop k) := (ok.take.app o1 (by rw [List.length_take]; show min k gs.length + 1 ≤ 400; omega)).app ok.drop (by rw [List.length_append, List.length_take, List.length_drop]; show min k gs.length + 1 + (gs.length - k) ≤ 400; omega)
    refine ⟨_, rfl, _, _, .o, (by simp [ofStr_eq]), _, rfl, n, k, gs, rfl, ok, hk, _, rfl, rfl, _, _, rfl, _, _, rfl, rfl, ?_⟩
    refine ⟨_, rfl, _, _, .o, _, rfl, ⟨_, _, .o⟩, n, gs.take k, _, ns, rfl, ok.take, ct ns hn, hn, .inl (.inl ⟨rfl, _, rfl, _, rfl, n, [w0], rfl, o1, _, _, rfl, ?_⟩)⟩
    refine ⟨_, rfl, _, _, .o, (by simp [ofStr_eq]), _, rfl, _, rfl, n, k, gs, w0, rfl, ok, hk, hg, by omega, _, _, .o, _, rfl, ⟨_, _, .o⟩, n, gs.take k ++ [w0] ++ gs.drop k, _, ns, rfl, ok4, ct ns hn, hn, .inl ⟨_, rfl, _, _, .o, _, rfl, _, _, .o, _, rfl, ⟨_, _, .o⟩, n, [w0], _, runs (gs.take k) ns, rfl, o1, ct _ lk, lk, .inl ⟨⟨_, _, .o⟩, n, gs.drop k, _, runs [w0] (runs (gs.take k) ns), rfl, ok.drop, ct _ lw, lw, .inl (eqD_eq (by rw [runs_app, runs_app]) (eqd_row _) (by decide) ⟨false, rfl, ?_⟩)⟩⟩⟩
    show (if false = true then _ else _)
    rw [if_neg Bool.false_ne_true]
    exact places_one (x5 := some w0.da) (x6 := some (netD C n (gs.take k))) (x7 := some (netD C n (gs.drop k))) (x9 := some (netD C n [w0])) ok hl hn hk (places_two ok hl hn hk fun x10 => places_end ok hl hn pt2 fun μ' m p => h _ ((f1.mf.trans f2.mf).trans m) p)
end
end LL

set_option synthInstance.maxSize 100000
set_option synthInstance.maxHeartbeats 4000000
namespace LL
open PySem L2 PySem.Spec PyProof.Rows
/-- each turn may make cells of its own -/
theorem lcW {items : List Da} {G : Mu → Prop} {stp : Da → Mu → LcK → Prop} {P : DP} {μ1 : Mu} (f : Da → Da) (hz : items.length < 100000) (hG : ∀ μ', G μ')
    (hs : ∀ (i : Nat) x μ' (R : LcK), items[i]? = some x → (∀ μ'', (∀ b c, μ' b = some c → μ'' b = some c) → R (some (f x)) μ'') → stp x μ' R) (hp : ∀ μ', P (.lst (items.map f)) μ') : LcB items G stp P μ1 := by
  intro p hp0
  refine ⟨fun i μ' => μ' p = some (.ml ((items.take i).map f)), setM_at, fun i μ' _ _ => hG _, fun i x μ' hx e => ?_, fun μ' e => ?_⟩
  · refine hs i x μ' _ hx fun μ'' m => ?_
    refine ⟨_, m p _ e, ?_, ?_⟩
    · have := (List.getElem?_eq_some_iff.mp hx).1
      rw [List.length_map, List.length_take]
      exact Nat.lt_of_lt_of_le (by omega : min i items.length < 100000) (by decide)
    · show setM μ'' p _ p = some (.ml ((items.take (i + 1)).map f))
      rw [setM_at, getE_take hx, List.map_append]
      rfl
  · have e : μ' p = some (.ml ((items.take items.length).map f)) := e
    rw [List.take_length] at e
    exact ⟨_, e, .inl (hp _)⟩
/-- repr([net, net]) -/
theorem reprNN {C : Addr} {n : Nat} {gs hs : List Gt} {μ : Mu} {Q : DP} (ok : NetOk n gs) (hm : ∀ g ∈ gs, g.mild = true) (ok' : NetOk n hs) (hm' : ∀ g ∈ hs, g.mild = true) (q : Q (.s (listText [netText n gs, netText n hs])) μ) : dReprL (txN C) [.lst [netD C n gs, netD C n hs]] μ Q := by
  refine ⟨_, [netText n gs, netText n hs], rfl, ⟨C, _, _, List.mem_cons_self⟩, ⟨rfl, fun i d t e1 e2 => ?_⟩, ?_, q⟩
  · match i with
    | 0 => cases e1; cases e2; exact .inl ⟨n, gs, rfl, ok, hm, rfl⟩
    | 1 => cases e1; cases e2; exact .inl ⟨n, hs, rfl, ok', hm', rfl⟩
    | j + 2 => simp at e1
  · have a := (net_len ok hm).2
    have b := (net_len ok' hm').2
    have f := listText_le [netText n gs, netText n hs]
    have g : piled [netText n gs, netText n hs] ≤ 200000 := by
      rw [piled_cons, piled_cons]
      have : piled ([] : List Str) = 0 := rfl
      omega
    exact Nat.le_trans (by omega : _ ≤ 300000) (by decide)
section
variable {P : Program} {w : World} {K : PySem.W.Frag} {mg : Str → Option Value} {base : Heap} {C : Addr}
def dsp_law_pot : DSp := fun ds μ Q => ∃ (is : List Int) (k : Nat), ds = [.rd (is.map Da.i), .i k] ∧ k ≤ 2 ∧ ∀ p c, μ p = none → Pt p (setM μ p c) → Q (.r p) (setM μ p c)
theorem c_law_pot (T : Txt K mg C) : C8.Cal P w K mg base 1 "_law_pot" (spD K dsp_law_pot) [] := by
  obtain ⟨f, fd, D, b⟩ := T.d_law_pot
  refine ⟨f, fd, _, [], fnD (dsp := dsp_law_pot) D.fn sc_law_pot (fun ds μ Q h => ?_) (fun cdv A outer s H E hr _ => ?_), D.mgf, D.kp, b, .nil⟩
  · obtain ⟨is, k, rfl, _⟩ := h
    rfl
  · refine ⟨_, (pss_cons (ps_set (i := 2) sc_law_pot.nd rfl (Or.inl rfl) (pe_ifExp (pt_cmpR op_lt (pv 1) (pe_callB call_len_seq (by rfl) T.b_len (by decide +kernel) (pa_cons (pv 0) pa_nil)) (nomark _)) (pe_callB call_abs (by rfl) T.b_abs (by decide +kernel) (pa_cons (pe_ix ix_list (pv 0) (pv 1) (fun _ _ => rfl)) pa_nil)) (pe_op op_add (pe_op op_mul pe_int (pv 1)) pe_int)))
      (pss_one (ps_ret (pe_lst (pa_cons (pe_callB (call_max2 rfl) (by rfl) T.b_max (by decide +kernel) (pa_cons pe_int (pa_cons (pe_op op_sub (pv 2) (pe_op op_pow pe_int pe_int)) pa_nil))) (pa_cons (pe_op op_add (pe_op op_mod (pe_callTy call_int1 (by rfl) T.b_int (by decide +kernel) (pa_cons (pe_op op_add (pe_op op_add (pe_op op_mul (pe_op op_mod (pe_callTy call_int1 (by rfl) T.b_int (by decide +kernel) (pa_cons (pv 2) pa_nil)) pe_int) pe_int) (pe_op op_mul pe_int (pv 1))) pe_int) pa_nil)) pe_int) pe_int) pa_nil)))))), ?_⟩
    dsimp only [cxOf, Cx.nox]
    refine ⟨_, inferInstance, fun ds μ Q h => ?_⟩
    obtain ⟨is, k, rfl, hk, q⟩ := h
    simp only [dVar, dC, dOp, dUn, dI0, dU, dEq, dNe, dIsN, dIxL, dIxT, dIn, dCat, dRep, dTest, dAnd, dOr, dNot, dYes, dAndV, dOrV, dNotV, dIf, dChain, dNil, dCons, dTup, dLst, dCall, dCallD, dFld, dCon, dCVal, dMeth, dProp, dMake, dMakeD, dCallO, dCB, dLen, dListOf, dTupleOf, d2I, d1I, dInt1, dDivmod, dInts, dBools, dIsi, dBM, dAppend, dNoPart, dPart, dSl, dOwn2, dOwnI, dOwnN, dEqD, dName, dgNil, dgCons, dgTup, dSub, dSetL, dNext, dSeq, dBreak, dCont, dDrop, dRet, dRetN, dIfS, dAsg, dPar, dSetF, dI, endD, startR, Option.some.injEq, Da.v.injEq, Da.tup.injEq, Da.lst.injEq, V.int.injEq, V.bl.injEq, V.str.injEq, V.ref.injEq, exists_eq_left', exists_eq_left, exists_and_left, List.cons.injEq, and_true, true_and, and_assoc, exists_eq, List.map_cons, List.map_nil, List.length_cons, List.length_nil, List.cons_append, List.nil_append, List.append_nil, List.replicate_succ, List.replicate_zero, List.getElem?_cons_succ, List.getElem?_cons_zero, List.set_cons_succ, List.set_cons_zero, List.length_map, if_true, Bool.false_eq_true, if_false, reduceIte, Nat.reduceAdd, Nat.reduceSub, Nat.zero_add, exists_const, exists_false, List.length_replicate, fzv_b, fzv_i, fzv_s, fzv_n, fzv_t, fzv_l, fzv_o, dIsiTE, dMakeL, dCMeth, dReprD, dReprL, dTruth, scal_ii, scal_ss, scal_bb, Cell.ml.injEq, Cell.mi.injEq, reduceCtorEq, Bool.true_eq_false, not_true_eq_false, not_false_eq_true, Int.natCast_nonneg, Int.ofNat_lt, Int.ofNat_le, Int.natCast_inj, isi_ii, isi_ib, isi_ss, isi_tt, sq_t, sq_l, lst_l, lstT_l, ins_o, ins_oC, fld_cons, ofStr_eq, String.reduceEq, Bool.not_true, Bool.not_false, Bool.not_eq_true', decide_eq_false_iff_not, decide_eq_true_eq, dNever, N_law_pot]
    have new : ∀ x y : Int, 0 ≤ x → 0 ≤ y → y < 2147483548 → NewL [.i x, .i y] μ fun d μ1 => FzV Q d μ1 := fun x y h1 h2 h3 => .inr fun p hp => .inl (q p _ hp ⟨x, y, setM_at, h1, h2, by omega⟩)
    refine ⟨_, .inl (.inr (.inl rfl)), ?_⟩
    by_cases c : k < (is.map Da.i).length
    · rw [if_pos c]
      refine ⟨_, .inr (.inl rfl), .i (at0 is k), at_int (by rw [List.length_map] at c; exact c), at0 is k, rfl, ⟨by decide, by decide, by decide⟩, by decide, .inl ⟨?_, ?_⟩, .inl ⟨by decide, by decide⟩, by decide, by decide, new _ _ ?_ ?_ ?_⟩
      · have := Int.emod_nonneg (if at0 is k < 0 then -at0 is k else at0 is k) (show (2147483477 : Int) ≠ 0 by decide)
        omega
      · have := Int.emod_lt_of_pos (if at0 is k < 0 then -at0 is k else at0 is k) (show (0 : Int) < 2147483477 by decide)
        omega
      · split <;> omega
      · have := Int.emod_nonneg (((if at0 is k < 0 then -at0 is k else at0 is k) % 2147483477 * 40087 + 6053 * (k : Int) + 59)) (show (2147483489 : Int) ≠ 0 by decide)
        omega
      · have := Int.emod_lt_of_pos (((if at0 is k < 0 then -at0 is k else at0 is k) % 2147483477 * 40087 + 6053 * (k : Int) + 59)) (show (0 : Int) < 2147483489 by decide)
        omega
    · rw [if_neg c]
      refine ⟨.inl ⟨by decide, by decide⟩, ⟨by decide, by decide, by decide⟩, by decide, .inl ⟨?_, ?_⟩, .inl ⟨by decide, by decide⟩, by decide, by decide, new _ _ ?_ ?_ ?_⟩
      · have := Int.emod_nonneg (193 * (k : Int) + 101) (show (2147483477 : Int) ≠ 0 by decide)
        omega
      · have := Int.emod_lt_of_pos (193 * (k : Int) + 101) (show (0 : Int) < 2147483477 by decide)
        omega
      · split <;> omega
      · have := Int.emod_nonneg (((193 * (k : Int) + 101) % 2147483477 * 40087 + 6053 * (k : Int) + 59)) (show (2147483489 : Int) ≠ 0 by decide)
        omega
      · have := Int.emod_lt_of_pos (((193 * (k : Int) + 101) % 2147483477 * 40087 + 6053 * (k : Int) + 59)) (show (0 : Int) < 2147483489 by decide)
        omega
def dsp_law_right : DSp := fun ds μ Q => ∃ (a : Addr), ds = [.r a] ∧ Pt a μ ∧ ∀ μ', Mf a μ μ' → Q (.b true) μ'
theorem c_law_right (T : Txt K mg C) : CalQ NoG P w K mg base 11 "_law_right" (spD K dsp_law_right) := by
  obtain ⟨f, fd, D, b⟩ := T.d_law_right
  refine ⟨f, fd, _, fnDQ noG_deep (dsp := dsp_law_right) D.fn sc_law_right (fun ds μ Q h => ?_) (fun cdv A outer s H E hr hA => ?_), D.mgf, D.kp, b⟩
  · obtain ⟨a, rfl, _⟩ := h
    rfl
  · refine ⟨_, (pss_cons (ps_par (i := 1) (j := 2) (by rfl) sc_law_right.nd rfl rfl (by decide) rfl rfl (pa_cons (pe_op op_add pe_int (C8.pe_c (c_law_draw T) hr (by decide) rfl (pa_cons (pv 0) (pa_cons pe_int pa_nil)))) (pa_cons (pe_op op_add pe_int (C8.pe_c (c_law_draw T) hr (by decide) rfl (pa_cons (pv 0) (pa_cons pe_int pa_nil)))) pa_nil)) (by rfl))
      (pss_cons (ps_par (i := 3) (j := 4) (by rfl) sc_law_right.nd rfl rfl (by decide) rfl rfl (pa_cons (C8.pe_mk (c_Net T) hr (by decide) rfl (pa_cons (pv 1) (pa_cons (C8.pe_c (c_law_gates T) hr (by decide) rfl (pa_cons (pv 0) (pa_cons (pv 1) (pa_cons pe_int pa_nil)))) pa_nil))) (pa_cons (C8.pe_mk (c_Net T) hr (by decide) rfl (pa_cons (pv 1) (pa_cons (C8.pe_c (c_law_gates T) hr (by decide) rfl (pa_cons (pv 0) (pa_cons (pv 1) (pa_cons pe_int pa_nil)))) pa_nil))) pa_nil)) (by rfl))
      (pss_cons (ps_par (i := 5) (j := 6) (by rfl) sc_law_right.nd rfl rfl (by decide) rfl rfl (pa_cons (C8.pe_mk (c_Net T) hr (by decide) rfl (pa_cons (pv 2) (pa_cons (C8.pe_c (c_law_gates T) hr (by decide) rfl (pa_cons (pv 0) (pa_cons (pv 2) (pa_cons pe_int pa_nil)))) pa_nil))) (pa_cons (pe_callB (call_reprL dnet_ext (fun a => tells_net T a) hA (hr.mono (by decide))) (by rfl) T.b_repr (by decide +kernel) (pa_cons (pe_lst (pa_cons (pv 3) (pa_cons (pv 4) pa_nil))) pa_nil)) pa_nil)) (by rfl))
      (pss_cons (ps_for PassesOwn.never rfl (pi_range1 rfl T.b_range (pa_cons pe_int pa_nil)) (pg_name (i := 7) sc_law_right.nd rfl (Or.inl rfl))
       (pss_cons (ps_set (i := 8) sc_law_right.nd rfl (Or.inl rfl) (C8.pe_c (c_law_content T) hr (by decide) rfl (pa_cons (pv 0) (pa_cons (pv 1) pa_nil))))
        (pss_cons (ps_if (pt_not (pt_val (C8.pe_c (c_law_behind_right T) hr (by decide) rfl (pa_cons (pv 3) (pa_cons (pv 4) (pa_cons (pv 8) pa_nil))))))
         (pss_one (ps_ret pe_bl))
         pss_nil)
        (pss_cons (ps_if (pt_not (pt_val (C8.pe_c (c_law_beside_right T) hr (by decide) rfl (pa_cons (pv 0) (pa_cons (pv 3) (pa_cons (pv 1) (pa_cons (pv 5) (pa_cons (pv 2) (pa_cons (pv 8) pa_nil)))))))))
         (pss_one (ps_ret pe_bl))
         pss_nil)
        (pss_cons (ps_if (PW.pt (pw_or (pt_not (pt_val (C8.pe_c (c_law_moved_right T) hr (by decide) rfl (pa_cons (pv 0) (pa_cons (pv 3) (pa_cons (pv 1) (pa_cons (pv 8) pa_nil))))))) (pw_or1 (pt_not (pt_val (C8.pe_c (c_law_turned_right T) hr (by decide) rfl (pa_cons (pv 0) (pa_cons (pv 3) (pa_cons (pv 4) (pa_cons (pv 1) (pa_cons (pv 8) pa_nil)))))))))))
         (pss_one (ps_ret pe_bl))
         pss_nil)
        (pss_one (ps_if (pt_not (pt_val (C8.pe_c (c_law_places_right T) hr (by decide) rfl (pa_cons (pv 0) (pa_cons (pv 3) (pa_cons (pv 1) (pa_cons (pv 8) pa_nil)))))))
         (pss_one (ps_ret pe_bl))
         pss_nil)))))))
      (pss_one (ps_ret (pe_cmpR op_eq (pe_callB (call_reprL dnet_ext (fun a => tells_net T a) hA (hr.mono (by decide))) (by rfl) T.b_repr (by decide +kernel) (pa_cons (pe_lst (pa_cons (pv 3) (pa_cons (pv 4) pa_nil))) pa_nil)) (pv 6) (nomark _)))))))), ?_⟩
    dsimp only [cxOf, Cx.nox]
    refine ⟨_, inferInstance, fun ds μ Q h => ?_⟩
    obtain ⟨a, rfl, pt, h⟩ := h
    refine ⟨_, rfl, a, 5, rfl, pt, by decide, by decide, fun d μ1 f1 pt1 d0 d1 => ⟨_, _, rfl, rfl, ?_⟩⟩
    refine ⟨_, rfl, a, 5, rfl, pt1, by decide, by decide, fun e μ2 f2 pt2 e0 e1 => ⟨_, _, rfl, rfl, _, _, rfl, ?_⟩⟩
    obtain ⟨k1, rfl⟩ := Int.eq_ofNat_of_zero_le d0
    obtain ⟨k2, rfl⟩ := Int.eq_ofNat_of_zero_le e0
    have ec : ∀ k : Nat, (fun i j : Int => V.int (i + j)) 1 (k : Int) = V.int ((1 + k : Nat) : Int) := fun k => congrArg V.int (by show (1 : Int) + k = ((1 + k : Nat) : Int); omega)
    rw [ec k1, ec k2]
    have n1 : 1 ≤ 1 + k1 := by omega
    have n5 : 1 + k1 ≤ 5 := by omega
    have m1 : 1 ≤ 1 + k2 := by omega
    have m5 : 1 + k2 ≤ 5 := by omega
    generalize 1 + k1 = n at n1 n5 ⊢
    generalize 1 + k2 = m at m1 m5 ⊢
    have sz2 : 2 ≤ sizeLine := by decide
    refine ⟨_, rfl, _, rfl, _, rfl, a, n, 15, rfl, pt2, n1, by omega, by decide, fun gs μ3 f3 pt3 hg hl => .inl ?_⟩
    have ok : NetOk n gs := ⟨n1, by omega, fun g q => (hg g q).1, by omega⟩
    intro q hq
    refine ⟨q, _, n, gs, rfl, setM_at, .inl rfl, ok, rfl, _, _, setM_at, .inl ?_⟩
    rw [setM_setM, remM_setM hq]
    clear hq q
    refine ⟨_, rfl, _, rfl, _, rfl, a, n, 8, rfl, pt3, n1, by omega, by decide, fun hs μ4 f4 pt4 hg' hl' => .inl ?_⟩
    have ok' : NetOk n hs := ⟨n1, by omega, fun g q => (hg' g q).1, by omega⟩
    intro q hq
    refine ⟨q, _, n, hs, rfl, setM_at, .inl rfl, ok', rfl, _, _, setM_at, .inl ?_⟩
    rw [setM_setM, remM_setM hq]
    clear hq q
    refine ⟨_, _, rfl, ?_⟩
    refine ⟨_, rfl, _, rfl, _, rfl, a, m, 8, rfl, pt4, m1, by omega, by decide, fun js μ5 f5 pt5 hgj hlj => .inl ?_⟩
    have okj : NetOk m js := ⟨m1, by omega, fun g q => (hgj g q).1, by omega⟩
    intro q hq
    refine ⟨q, _, m, js, rfl, setM_at, .inl rfl, okj, rfl, _, _, setM_at, .inl ?_⟩
    rw [setM_setM, remM_setM hq]
    clear hq q
    have hm : ∀ g ∈ gs, g.mild = true := fun g q => (hg g q).2
    have hm' : ∀ g ∈ hs, g.mild = true := fun g q => (hg' g q).2
    have m5' : Mf a μ μ5 := (((f1.mf.trans f2.mf).trans f3.mf).trans f4.mf).trans f5.mf
    refine ⟨_, rfl, _, rfl, sz2, .inl ?_⟩
    dsimp only [dNil]
    refine reprNN ok hm ok' hm' ⟨_, _, rfl, ?_⟩
    refine ⟨2, rfl, by decide, by decide, fun i ρ' μ' => (∃ x y, ρ' = [some (.r a), some (.i n), some (.i m), some (netD C n gs), some (netD C n hs), some (netD C m js), some (.s (listText [netText n gs, netText n hs])), x, y]) ∧ Pt a μ' ∧ Mf a μ μ', ⟨⟨none, none, rfl⟩, pt5, m5'⟩, fun _ _ _ _ _ => trivial, fun i y ρ' μ' hy z => ?_, fun ρ' μ' z => .no ?_⟩
    · obtain ⟨⟨x0, y0, rfl⟩, ptz, mz⟩ := z
      refine ⟨_, rfl, _, rfl, a, n, rfl, ptz, n1, by omega, fun ns μ6 f6 pt6 hn hsm => .inl ?_⟩
      refine ⟨_, rfl, _, rfl, _, rfl, n, gs, hs, ns, rfl, ok, ok', hl, by omega, hn, true, rfl, ?_⟩
      show (if (!true) = true then _ else _)
      rw [if_neg (by decide)]
      refine ⟨_, rfl, _, rfl, _, rfl, _, rfl, _, rfl, _, rfl, a, n, m, gs, js, ns, rfl, pt6, ok, okj, n5, m5, hl, by omega, hn, fun μ7 m7 pt7 => ⟨true, rfl, ?_⟩⟩
      show (if (!true) = true then _ else _)
      rw [if_neg (by decide)]
      refine ⟨_, rfl, _, rfl, _, rfl, _, rfl, a, n, gs, ns, rfl, pt7, ok, hn, fun μ8 m8 pt8 => ⟨true, rfl, ?_⟩⟩
      show (if (!true) = true then _ else _)
      rw [if_neg (by decide)]
      refine ⟨_, rfl, _, rfl, _, rfl, _, rfl, _, rfl, a, n, gs, hs, ns, rfl, pt8, ok, ok', n5, hl, by omega, hn, fun μ9 m9 pt9 => ⟨true, rfl, ?_⟩⟩
      show (if (!true) = true then _ else _)
      rw [if_neg (by decide)]
      refine ⟨_, rfl, _, rfl, _, rfl, _, rfl, a, n, gs, ns, rfl, pt9, ok, hl, hn, fun μ10 m10 pt10 => ⟨true, rfl, ?_⟩⟩
      show (if (!true) = true then _ else _)
      rw [if_neg (by decide)]
      exact ⟨⟨_, _, rfl⟩, pt10, ((((mz.trans f6.mf).trans m7).trans m8).trans m9).trans m10⟩
    · obtain ⟨⟨x0, y0, rfl⟩, ptz, mz⟩ := z
      refine ⟨_, rfl, _, rfl, sz2, .inl ?_⟩
      dsimp only [dNil]
      refine reprNN ok hm ok' hm' ⟨_, rfl, _, _, rfl, rfl, (by rw [scal_ss]; trivial), .inl ?_⟩
      rw [decide_eq_true rfl]
      exact h μ' mz
def dsp_law : DSp := fun ds μ Q => ∃ is : List Int, ds = [.rd (is.map Da.i)] ∧ is.length ≤ 63 ∧ ∀ μ', Q (.b true) μ'
theorem ok_lawD (T : Txt K mg C) {f : Addr} {fd : FuncData} (F : C8.Fun K "law" "law" s_law f fd) : FnQ NoG P w K mg base 12 f fd ["_law_script"] (spD K dsp_law) := by
  refine fnDQ noG_deep (dsp := dsp_law) F sc_law (fun ds μ Q h => ?_) (fun cdv A outer s H E hr hA => ?_)
  · obtain ⟨is, rfl, _⟩ := h
    rfl
  · refine ⟨_, (pss_one (ps_ret (pe_callB (cr_all rfl) (by rfl) T.b_all (by decide +kernel) (pa_cons (pe_lc (own := [("_law_k", 1)]) (g := (gName 1)) (tt := tYes) rfl sc_law.nd (pi_range1 rfl T.b_range (pa_cons (pe_callB (call_max2 rfl) (by rfl) T.b_max (by decide +kernel) (pa_cons pe_int (pa_cons (pe_callB (call_min2 rfl) (by rfl) T.b_min (by decide +kernel) (pa_cons pe_int (pa_cons (pe_callB call_len_seq (by rfl) T.b_len (by decide +kernel) (pa_cons (pv 0) pa_nil)) pa_nil))) pa_nil))) pa_nil)) (blkOk_by (N := N_law) (sc := C8.fnScope s_law) (by decide +kernel)) (fun _ _ _ _ _ => (pg_name (i := 1) sc_law.nd rfl (Or.inl rfl))) (fun _ _ _ _ _ => pts_nil) (fun _ _ _ _ _ => (pe_cQ (c_law_right T) hr (by decide) hA rfl (pa_cons (C8.pe_c (c_law_pot T) hr (by decide) rfl (pa_cons (pv 0) (pa_cons (pv 1) pa_nil))) pa_nil)))) pa_nil)))), ?_⟩
    dsimp only [cxOf, Cx.nox]
    refine ⟨_, inferInstance, fun ds μ Q h => ?_⟩
    obtain ⟨is, rfl, hl, h⟩ := h
    refine ⟨by decide, _, rfl, _, _, rfl, .inl (.inr (.inl rfl)), _, _, rfl, _, _, rfl, ?_⟩
    rw [List.length_map]
    obtain ⟨N, hN, h1, h3⟩ : ∃ N : Int, (fun i j : Int => if j > i then j else i) 1 ((fun i j : Int => if j < i then j else i) 3 (is.length : Int)) = N ∧ 1 ≤ N ∧ N ≤ 3 := ⟨_, rfl, by dsimp only; split <;> split <;> omega, by dsimp only; split <;> split <;> omega⟩
    refine ⟨N, congrArg (fun z : Int => [Da.i z]) hN, by omega, by omega, ?_⟩
    refine lcW (fun _ => .b true) (by rw [rgD_length]; omega) (fun _ => trivial) (fun i x μ' R hx r => ?_) fun μ' => ?_
    · have hi := (List.getElem?_eq_some_iff.mp hx).1
      rw [rgD_length] at hi
      rw [rgD_get hx]
      refine ⟨_, rfl, _, rfl, is, i, (by rw [Int.zero_add]), by omega, fun p c hp pt => ⟨p, rfl, pt, fun μ2 m => ?_⟩⟩
      refine r μ2 fun b c' hb => m b c' (fun z => by rw [z, hp] at hb; cases hb) ?_
      rw [setM_ne (fun z => by rw [z, hp] at hb; cases hb)]
      exact hb
    · refine ⟨_, List.replicate (rgD 0 N.toNat).length true, rfl, .inl ?_, ?_⟩
      · rw [List.map_replicate, List.map_const']
      · show FzV Q (.b ((List.replicate (rgD 0 N.toNat).length true).all id)) μ'
        rw [show (List.replicate (rgD 0 N.toNat).length true).all id = true by simp]
        exact .inl (h _)
/-- the law, as its statement calls it -/
def sp_law (K : PySem.W.Frag) : Sp := fun vs H Q _ => ∃ (s : Addr) (is : List Int), vs = [V.ref s] ∧ SqL K H s (is.map V.int) ∧ is.length ≤ 63 ∧ ∀ H', Q (.bl true) H'
theorem ints_at {I : Hp} : ∀ is : List Int, AtAll K I (is.map V.int) (is.map Da.i)
  | [] => .nil
  | i :: r => .cons (.v _) (ints_at r)
theorem ok_law (T : Txt K mg C) {f : Addr} {fd : FuncData} (F : C8.Fun K "law" "law" s_law f fd) : FnQ NoG P w K mg base 12 f fd ["_law_script"] (sp_law K) :=
  let q := ok_lawD T F
  have imp : ∀ vs H Q E, sp_law K vs H Q E → spD K dsp_law vs H Q E := fun vs H Q E h => by
    obtain ⟨s, is, rfl, hS, hl, k⟩ := h
    refine ⟨H, fun _ => none, [.rd (is.map Da.i)], fun d _ => d = .b true, ⟨Same.refl _, fun _ _ e => by cases e⟩, .cons (.rd hS (ints_at is)) .nil, ⟨is, rfl, hl, fun _ => rfl⟩, fun v d I' H' μ' s' st' a' e => ?_⟩
    subst e
    rw [a'.val]
    exact k H'
  ⟨fun vs H Q E h => q.cnt vs H Q E (imp _ _ _ _ h), fun B envs t G ar is xs R J r a e b v h => q.go B envs t G ar is xs R J r a e b v (imp _ _ _ _ h)⟩
end
end LL

namespace LL
open PySem L2 PySem.Spec PyProof.Rows
theorem funMk {K : PySem.W.Frag} {x qual : Str} {st : Stmt} {f : Addr} {oc : Value} {od an : Option Addr} {osl : Array (Option Value)} {dV kV doc pm cdv ct : Value} (l : K.lookup f = some ⟨oc, od, .func (PySem.W.fnOf x qual (C8.fnArgs st) (C8.fnBody st) (C8.fnScope st) dV kV doc pm an cdv ct), osl⟩)
    (c : PySem.W.codeIn K cdv qual = true) : C8.Fun K x qual st f (PySem.W.fnOf x qual (C8.fnArgs st) (C8.fnBody st) (C8.fnScope st) dV kV doc pm an cdv ct) := ⟨⟨oc, od, dV, kV, doc, pm, an, cdv, ct, osl, rfl, l, c⟩⟩
theorem kb3 {K : PySem.W.Frag} {x : Str} {st : Stmt} {f : Addr} {fd : FuncData} (F : C8.Fun K x x st f fd) (df : fd.defaults = .none)
    (h : ∀ (kV doc pm : Value) (an : Option Addr) (cdv ct : Value) (m c n : Value), bindArgs (PySem.W.fnOf x x (C8.fnArgs st) (C8.fnBody st) (C8.fnScope st) .none kV doc pm an cdv ct) ⟨[], [(("many" : Str), m), (("content" : Str), c), (("net" : Str), n)]⟩ = pure [(("net" : Str), n), (("content" : Str), c), (("many" : Str), m)]) :
    KBinds K fd ["net", "content", "many"] ["many", "content", "net"] rot3 rot3 := by
  obtain ⟨oc, od, dV, kV, doc, pm, an, cdv, ct, osl, rfl, lk, hc⟩ := F.ex
  have e : dV = .none := df
  subst e
  refine ⟨fun s us ws KI hl => ?_, fun {vs us zs ws} r rz => ?_⟩
  · match us, ws, hl with
    | [], [m, c, n], _ => exact .of_eq (h kV doc pm an cdv ct m c n)
    | [], [], hl => exact absurd (show (0 : Nat) = 3 from hl) (by decide)
    | [], [_], hl => exact absurd (show (0 : Nat) = 3 from hl) (by decide)
    | [], [_, _], hl => exact absurd (show (0 : Nat) = 3 from hl) (by decide)
    | [], _ :: _ :: _ :: _ :: _, hl => exact absurd (show (0 : Nat) = 3 from hl) (by decide)
    | _ :: _, _, hl => exact absurd (show (0 : Nat) = 3 from hl) (by decide)
  · match vs, us, r, zs, ws, rz with
    | [], [], _, [], [], _ => exact .nil
    | [], [], _, [_], [_], _ => exact .nil
    | [], [], _, [_, _], [_, _], _ => exact .nil
    | [], [], _, [_, _, _], [_, _, _], .cons r1 (.cons r2 (.cons r3 .nil)) => exact .cons r3 (.cons r2 (.cons r1 .nil))
    | [], [], _, _ :: _ :: _ :: _ :: _, _ :: _ :: _ :: _ :: _, _ => exact .nil
    | _ :: _, _ :: _, _, _, _, _ => exact .nil
theorem all_mk {l : PySem.W.OpenLaw} {w : World} {K : PySem.W.Frag} {h : Heap} {mg : Str → Option Value} {fa : Addr} (X : K.In h) (G : h.Ns mainGlobals mg) (hfa : mg "law" = some (.ref fa))
    {f1 : Addr} {od1 an1 : Option Addr} {sl1 : Array (Option Value)} {oc1 kV1 dc1 pm1 cd1 ct1 : Value}
    {f2 : Addr} {od2 an2 : Option Addr} {sl2 : Array (Option Value)} {oc2 kV2 dc2 pm2 cd2 ct2 : Value}
    {f3 : Addr} {od3 an3 : Option Addr} {sl3 : Array (Option Value)} {oc3 kV3 dc3 pm3 cd3 ct3 : Value}
    {f4 : Addr} {od4 an4 : Option Addr} {sl4 : Array (Option Value)} {oc4 kV4 dc4 pm4 cd4 ct4 : Value}
    {f5 : Addr} {od5 an5 : Option Addr} {sl5 : Array (Option Value)} {oc5 kV5 dc5 pm5 cd5 ct5 : Value}
    {f6 : Addr} {od6 an6 : Option Addr} {sl6 : Array (Option Value)} {oc6 kV6 dc6 pm6 cd6 ct6 : Value}
    {f7 : Addr} {od7 an7 : Option Addr} {sl7 : Array (Option Value)} {oc7 kV7 dc7 pm7 cd7 ct7 : Value}
    {f8 : Addr} {od8 an8 : Option Addr} {sl8 : Array (Option Value)} {oc8 kV8 dc8 pm8 cd8 ct8 : Value}
    {f9 : Addr} {od9 an9 : Option Addr} {sl9 : Array (Option Value)} {oc9 kV9 dc9 pm9 cd9 ct9 : Value}
    {f10 : Addr} {od10 an10 : Option Addr} {sl10 : Array (Option Value)} {oc10 kV10 dc10 pm10 cd10 ct10 : Value}
    {f11 : Addr} {od11 an11 : Option Addr} {sl11 : Array (Option Value)} {oc11 kV11 dc11 pm11 cd11 ct11 : Value}
    {f12 : Addr} {od12 an12 : Option Addr} {sl12 : Array (Option Value)} {oc12 kV12 dc12 pm12 cd12 ct12 : Value}
    {f13 : Addr} {od13 an13 : Option Addr} {sl13 : Array (Option Value)} {oc13 kV13 dc13 pm13 cd13 ct13 : Value}
    {f14 : Addr} {od14 an14 : Option Addr} {sl14 : Array (Option Value)} {oc14 kV14 dc14 pm14 cd14 ct14 : Value}
    {f15 : Addr} {od15 an15 : Option Addr} {sl15 : Array (Option Value)} {oc15 kV15 dc15 pm15 cd15 ct15 : Value}
    {f16 : Addr} {od16 an16 : Option Addr} {sl16 : Array (Option Value)} {oc16 kV16 dc16 pm16 cd16 ct16 : Value}
    {f17 : Addr} {od17 an17 : Option Addr} {sl17 : Array (Option Value)} {oc17 kV17 dc17 pm17 cd17 ct17 : Value}
    {f18 : Addr} {od18 an18 : Option Addr} {sl18 : Array (Option Value)} {oc18 kV18 dc18 pm18 cd18 ct18 : Value}
    {f19 : Addr} {od19 an19 : Option Addr} {sl19 : Array (Option Value)} {oc19 kV19 dc19 pm19 cd19 ct19 : Value}
    {f20 : Addr} {od20 an20 : Option Addr} {sl20 : Array (Option Value)} {oc20 kV20 dc20 pm20 cd20 ct20 : Value}
    {f21 : Addr} {od21 an21 : Option Addr} {sl21 : Array (Option Value)} {oc21 kV21 dc21 pm21 cd21 ct21 : Value}
    {f22 : Addr} {od22 an22 : Option Addr} {sl22 : Array (Option Value)} {oc22 kV22 dc22 pm22 cd22 ct22 : Value}
    {f23 : Addr} {od23 an23 : Option Addr} {sl23 : Array (Option Value)} {oc23 kV23 dc23 pm23 cd23 ct23 : Value}
    {f24 : Addr} {od24 an24 : Option Addr} {sl24 : Array (Option Value)} {oc24 kV24 dc24 pm24 cd24 ct24 : Value}
    {f25 : Addr} {od25 an25 : Option Addr} {sl25 : Array (Option Value)} {oc25 kV25 dc25 pm25 cd25 ct25 : Value}
    {f26 : Addr} {od26 an26 : Option Addr} {sl26 : Array (Option Value)} {oc26 kV26 dc26 pm26 cd26 ct26 : Value}
    {f27 : Addr} {od27 an27 : Option Addr} {sl27 : Array (Option Value)} {oc27 kV27 dc27 pm27 cd27 ct27 : Value}
    {f28 : Addr} {od28 an28 : Option Addr} {sl28 : Array (Option Value)} {oc28 kV28 dc28 pm28 cd28 ct28 : Value}
    {f29 : Addr} {od29 an29 : Option Addr} {sl29 : Array (Option Value)} {oc29 kV29 dc29 pm29 cd29 ct29 : Value}
    {f30 : Addr} {od30 an30 : Option Addr} {sl30 : Array (Option Value)} {oc30 kV30 dc30 pm30 cd30 ct30 : Value}
    {f31 : Addr} {od31 an31 : Option Addr} {sl31 : Array (Option Value)} {oc31 kV31 dc31 pm31 cd31 ct31 : Value}
    {f32 : Addr} {od32 an32 : Option Addr} {sl32 : Array (Option Value)} {oc32 kV32 dc32 pm32 cd32 ct32 : Value}
    {f33 : Addr} {od33 an33 : Option Addr} {sl33 : Array (Option Value)} {oc33 kV33 dc33 pm33 cd33 ct33 : Value}
    {f34 : Addr} {od34 an34 : Option Addr} {sl34 : Array (Option Value)} {oc34 kV34 dc34 pm34 cd34 ct34 : Value}
    {f35 : Addr} {od35 an35 : Option Addr} {sl35 : Array (Option Value)} {oc35 kV35 dc35 pm35 cd35 ct35 : Value}
    {f36 : Addr} {od36 an36 : Option Addr} {sl36 : Array (Option Value)} {oc36 kV36 dc36 pm36 cd36 ct36 : Value}
    {C : Addr}
    {tM tN : Tok}
    {tA : Tok}
    {aT : Addr} {dT : Option Addr} {nT : Nat} {sT : Array (Option Value)} {t1 t2 t3 t4 : Tok}
    {tJ : Tok}
    {fo ro : Option Value}
    {TD : Addr} {dO : Option Addr} {nD : Nat} {sD : Array (Option Value)} {oD : Value} {eD : Addr}
    {f37 : Addr} {od37 an37 : Option Addr} {sl37 : Array (Option Value)} {oc37 kV37 dc37 pm37 cd37 ct37 : Value}
    {dE : Option Addr} {nE : Nat} {sE : Array (Option Value)}
    {f38 : Addr} {od38 an38 : Option Addr} {sl38 : Array (Option Value)} {oc38 kV38 dc38 pm38 cd38 ct38 : Value}
    {f39 : Addr} {od39 an39 : Option Addr} {sl39 : Array (Option Value)} {oc39 kV39 dc39 pm39 cd39 ct39 : Value}
    {f40 : Addr} {od40 an40 : Option Addr} {sl40 : Array (Option Value)} {oc40 kV40 dc40 pm40 cd40 ct40 : Value}
    {f41 : Addr} {od41 an41 : Option Addr} {sl41 : Array (Option Value)} {oc41 kV41 dc41 pm41 cd41 ct41 : Value}
    {f42 : Addr} {od42 an42 : Option Addr} {sl42 : Array (Option Value)} {oc42 kV42 dc42 pm42 cd42 ct42 : Value}
    {f43 : Addr} {od43 an43 : Option Addr} {sl43 : Array (Option Value)} {oc43 kV43 dc43 pm43 cd43 ct43 : Value}
    {f44 : Addr} {od44 an44 : Option Addr} {sl44 : Array (Option Value)} {oc44 kV44 dc44 pm44 cd44 ct44 : Value}
    {f45 : Addr} {od45 an45 : Option Addr} {sl45 : Array (Option Value)} {oc45 kV45 dc45 pm45 cd45 ct45 : Value}
    {f46 : Addr} {od46 an46 : Option Addr} {sl46 : Array (Option Value)} {oc46 kV46 dc46 pm46 cd46 ct46 : Value}
    {f47 : Addr} {od47 an47 : Option Addr} {sl47 : Array (Option Value)} {oc47 kV47 dc47 pm47 cd47 ct47 : Value}
    {f48 : Addr} {od48 an48 : Option Addr} {sl48 : Array (Option Value)} {oc48 kV48 dc48 pm48 cd48 ct48 : Value}
    {f49 : Addr} {od49 an49 : Option Addr} {sl49 : Array (Option Value)} {oc49 kV49 dc49 pm49 cd49 ct49 : Value}
    {f50 : Addr} {od50 an50 : Option Addr} {sl50 : Array (Option Value)} {oc50 kV50 dc50 pm50 cd50 ct50 : Value}
    {f51 : Addr} {od51 an51 : Option Addr} {sl51 : Array (Option Value)} {oc51 kV51 dc51 pm51 cd51 ct51 : Value}
    {f52 : Addr} {od52 an52 : Option Addr} {sl52 : Array (Option Value)} {oc52 kV52 dc52 pm52 cd52 ct52 : Value}
    {p53 : Addr} {r53 : List Value}
    {f53 : Addr} {od53 an53 : Option Addr} {sl53 : Array (Option Value)} {oc53 kV53 dc53 pm53 cd53 ct53 : Value}
    {p54 : Addr} {r54 : List Value}
    {f54 : Addr} {od54 an54 : Option Addr} {sl54 : Array (Option Value)} {oc54 kV54 dc54 pm54 cd54 ct54 : Value}
    (z_abs : PySem.W.nsIn K mainGlobals "abs" = some none)
    (z_all : PySem.W.nsIn K mainGlobals "all" = some none)
    (z_bool : PySem.W.nsIn K mainGlobals "bool" = some none)
    (z_divmod : PySem.W.nsIn K mainGlobals "divmod" = some none)
    (z_enumerate : PySem.W.nsIn K mainGlobals "enumerate" = some none)
    (z_int : PySem.W.nsIn K mainGlobals "int" = some none)
    (z_isinstance : PySem.W.nsIn K mainGlobals "isinstance" = some none)
    (z_len : PySem.W.nsIn K mainGlobals "len" = some none)
    (z_list : PySem.W.nsIn K mainGlobals "list" = some none)
    (z_max : PySem.W.nsIn K mainGlobals "max" = some none)
    (z_min : PySem.W.nsIn K mainGlobals "min" = some none)
    (z_range : PySem.W.nsIn K mainGlobals "range" = some none)
    (z_repr : PySem.W.nsIn K mainGlobals "repr" = some none)
    (z_sorted : PySem.W.nsIn K mainGlobals "sorted" = some none)
    (z_str : PySem.W.nsIn K mainGlobals "str" = some none)
    (z_tuple : PySem.W.nsIn K mainGlobals "tuple" = some none)
    (z_zip : PySem.W.nsIn K mainGlobals "zip" = some none)
    (a1 : PySem.W.nsIn K mainGlobals "is_integer" = some (some (.ref f1)))
    (l1 : K.lookup f1 = some ⟨oc1, od1, .func (PySem.W.fnOf "is_integer" "is_integer" (C8.fnArgs s_is_integer) (C8.fnBody s_is_integer) (C8.fnScope s_is_integer) .none kV1 dc1 pm1 an1 cd1 ct1), sl1⟩)
    (c1 : PySem.W.codeIn K cd1 "is_integer" = true)
    (k1 : PySem.W.keepIn K (.ref f1) = true)
    (a2 : PySem.W.nsIn K mainGlobals "is_count" = some (some (.ref f2)))
    (l2 : K.lookup f2 = some ⟨oc2, od2, .func (PySem.W.fnOf "is_count" "is_count" (C8.fnArgs s_is_count) (C8.fnBody s_is_count) (C8.fnScope s_is_count) .none kV2 dc2 pm2 an2 cd2 ct2), sl2⟩)
    (c2 : PySem.W.codeIn K cd2 "is_count" = true)
    (k2 : PySem.W.keepIn K (.ref f2) = true)
    (a3 : PySem.W.nsIn K mainGlobals "is_list" = some (some (.ref f3)))
    (l3 : K.lookup f3 = some ⟨oc3, od3, .func (PySem.W.fnOf "is_list" "is_list" (C8.fnArgs s_is_list) (C8.fnBody s_is_list) (C8.fnScope s_is_list) .none kV3 dc3 pm3 an3 cd3 ct3), sl3⟩)
    (c3 : PySem.W.codeIn K cd3 "is_list" = true)
    (k3 : PySem.W.keepIn K (.ref f3) = true)
    (a4 : PySem.W.nsIn K mainGlobals "is_content" = some (some (.ref f4)))
    (l4 : K.lookup f4 = some ⟨oc4, od4, .func (PySem.W.fnOf "is_content" "is_content" (C8.fnArgs s_is_content) (C8.fnBody s_is_content) (C8.fnScope s_is_content) .none kV4 dc4 pm4 an4 cd4 ct4), sl4⟩)
    (c4 : PySem.W.codeIn K cd4 "is_content" = true)
    (k4 : PySem.W.keepIn K (.ref f4) = true)
    (a5 : PySem.W.nsIn K mainGlobals "_has_lanes" = some (some (.ref f5)))
    (l5 : K.lookup f5 = some ⟨oc5, od5, .func (PySem.W.fnOf "_has_lanes" "_has_lanes" (C8.fnArgs s_has_lanes) (C8.fnBody s_has_lanes) (C8.fnScope s_has_lanes) .none kV5 dc5 pm5 an5 cd5 ct5), sl5⟩)
    (c5 : PySem.W.codeIn K cd5 "_has_lanes" = true)
    (k5 : PySem.W.keepIn K (.ref f5) = true)
    (a6 : PySem.W.nsIn K mainGlobals "is_lane" = some (some (.ref f6)))
    (l6 : K.lookup f6 = some ⟨oc6, od6, .func (PySem.W.fnOf "is_lane" "is_lane" (C8.fnArgs s_is_lane) (C8.fnBody s_is_lane) (C8.fnScope s_is_lane) .none kV6 dc6 pm6 an6 cd6 ct6), sl6⟩)
    (c6 : PySem.W.codeIn K cd6 "is_lane" = true)
    (k6 : PySem.W.keepIn K (.ref f6) = true)
    (a7 : PySem.W.nsIn K mainGlobals "is_order" = some (some (.ref f7)))
    (l7 : K.lookup f7 = some ⟨oc7, od7, .func (PySem.W.fnOf "is_order" "is_order" (C8.fnArgs s_is_order) (C8.fnBody s_is_order) (C8.fnScope s_is_order) .none kV7 dc7 pm7 an7 cd7 ct7), sl7⟩)
    (c7 : PySem.W.codeIn K cd7 "is_order" = true)
    (k7 : PySem.W.keepIn K (.ref f7) = true)
    (a8 : PySem.W.nsIn K mainGlobals "check_content" = some (some (.ref f8)))
    (l8 : K.lookup f8 = some ⟨oc8, od8, .func (PySem.W.fnOf "check_content" "check_content" (C8.fnArgs s_check_content) (C8.fnBody s_check_content) (C8.fnScope s_check_content) .none kV8 dc8 pm8 an8 cd8 ct8), sl8⟩)
    (c8 : PySem.W.codeIn K cd8 "check_content" = true)
    (k8 : PySem.W.keepIn K (.ref f8) = true)
    (a9 : PySem.W.nsIn K mainGlobals "check_any_content" = some (some (.ref f9)))
    (l9 : K.lookup f9 = some ⟨oc9, od9, .func (PySem.W.fnOf "check_any_content" "check_any_content" (C8.fnArgs s_check_any_content) (C8.fnBody s_check_any_content) (C8.fnScope s_check_any_content) .none kV9 dc9 pm9 an9 cd9 ct9), sl9⟩)
    (c9 : PySem.W.codeIn K cd9 "check_any_content" = true)
    (k9 : PySem.W.keepIn K (.ref f9) = true)
    (a10 : PySem.W.nsIn K mainGlobals "check_lanes" = some (some (.ref f10)))
    (l10 : K.lookup f10 = some ⟨oc10, od10, .func (PySem.W.fnOf "check_lanes" "check_lanes" (C8.fnArgs s_check_lanes) (C8.fnBody s_check_lanes) (C8.fnScope s_check_lanes) .none kV10 dc10 pm10 an10 cd10 ct10), sl10⟩)
    (c10 : PySem.W.codeIn K cd10 "check_lanes" = true)
    (k10 : PySem.W.keepIn K (.ref f10) = true)
    (a11 : PySem.W.nsIn K mainGlobals "check_number" = some (some (.ref f11)))
    (l11 : K.lookup f11 = some ⟨oc11, od11, .func (PySem.W.fnOf "check_number" "check_number" (C8.fnArgs s_check_number) (C8.fnBody s_check_number) (C8.fnScope s_check_number) .none kV11 dc11 pm11 an11 cd11 ct11), sl11⟩)
    (c11 : PySem.W.codeIn K cd11 "check_number" = true)
    (k11 : PySem.W.keepIn K (.ref f11) = true)
    (a12 : PySem.W.nsIn K mainGlobals "check_many" = some (some (.ref f12)))
    (l12 : K.lookup f12 = some ⟨oc12, od12, .func (PySem.W.fnOf "check_many" "check_many" (C8.fnArgs s_check_many) (C8.fnBody s_check_many) (C8.fnScope s_check_many) .none kV12 dc12 pm12 an12 cd12 ct12), sl12⟩)
    (c12 : PySem.W.codeIn K cd12 "check_many" = true)
    (k12 : PySem.W.keepIn K (.ref f12) = true)
    (a13 : PySem.W.nsIn K mainGlobals "check_order" = some (some (.ref f13)))
    (l13 : K.lookup f13 = some ⟨oc13, od13, .func (PySem.W.fnOf "check_order" "check_order" (C8.fnArgs s_check_order) (C8.fnBody s_check_order) (C8.fnScope s_check_order) .none kV13 dc13 pm13 an13 cd13 ct13), sl13⟩)
    (c13 : PySem.W.codeIn K cd13 "check_order" = true)
    (k13 : PySem.W.keepIn K (.ref f13) = true)
    (a14 : PySem.W.nsIn K mainGlobals "raised" = some (some (.ref f14)))
    (l14 : K.lookup f14 = some ⟨oc14, od14, .func (PySem.W.fnOf "raised" "raised" (C8.fnArgs s_raised) (C8.fnBody s_raised) (C8.fnScope s_raised) .none kV14 dc14 pm14 an14 cd14 ct14), sl14⟩)
    (c14 : PySem.W.codeIn K cd14 "raised" = true)
    (k14 : PySem.W.keepIn K (.ref f14) = true)
    (a15 : PySem.W.nsIn K mainGlobals "turned" = some (some (.ref f15)))
    (l15 : K.lookup f15 = some ⟨oc15, od15, .func (PySem.W.fnOf "turned" "turned" (C8.fnArgs s_turned) (C8.fnBody s_turned) (C8.fnScope s_turned) .none kV15 dc15 pm15 an15 cd15 ct15), sl15⟩)
    (c15 : PySem.W.codeIn K cd15 "turned" = true)
    (k15 : PySem.W.keepIn K (.ref f15) = true)
    (a16 : PySem.W.nsIn K mainGlobals "moved" = some (some (.ref f16)))
    (l16 : K.lookup f16 = some ⟨oc16, od16, .func (PySem.W.fnOf "moved" "moved" (C8.fnArgs s_moved) (C8.fnBody s_moved) (C8.fnScope s_moved) .none kV16 dc16 pm16 an16 cd16 ct16), sl16⟩)
    (c16 : PySem.W.codeIn K cd16 "moved" = true)
    (k16 : PySem.W.keepIn K (.ref f16) = true)
    (a17 : PySem.W.nsIn K mainGlobals "is_gate" = some (some (.ref f17)))
    (l17 : K.lookup f17 = some ⟨oc17, od17, .func (PySem.W.fnOf "is_gate" "is_gate" (C8.fnArgs s_is_gate) (C8.fnBody s_is_gate) (C8.fnScope s_is_gate) .none kV17 dc17 pm17 an17 cd17 ct17), sl17⟩)
    (c17 : PySem.W.codeIn K cd17 "is_gate" = true)
    (k17 : PySem.W.keepIn K (.ref f17) = true)
    (a18 : PySem.W.nsIn K mainGlobals "behind_gate" = some (some (.ref f18)))
    (l18 : K.lookup f18 = some ⟨oc18, od18, .func (PySem.W.fnOf "behind_gate" "behind_gate" (C8.fnArgs s_behind_gate) (C8.fnBody s_behind_gate) (C8.fnScope s_behind_gate) .none kV18 dc18 pm18 an18 cd18 ct18), sl18⟩)
    (c18 : PySem.W.codeIn K cd18 "behind_gate" = true)
    (k18 : PySem.W.keepIn K (.ref f18) = true)
    (a19 : PySem.W.nsIn K mainGlobals "turned_gate" = some (some (.ref f19)))
    (l19 : K.lookup f19 = some ⟨oc19, od19, .func (PySem.W.fnOf "turned_gate" "turned_gate" (C8.fnArgs s_turned_gate) (C8.fnBody s_turned_gate) (C8.fnScope s_turned_gate) .none kV19 dc19 pm19 an19 cd19 ct19), sl19⟩)
    (c19 : PySem.W.codeIn K cd19 "turned_gate" = true)
    (k19 : PySem.W.keepIn K (.ref f19) = true)
    (a20 : PySem.W.nsIn K mainGlobals "gate_moved" = some (some (.ref f20)))
    (l20 : K.lookup f20 = some ⟨oc20, od20, .func (PySem.W.fnOf "gate_moved" "gate_moved" (C8.fnArgs s_gate_moved) (C8.fnBody s_gate_moved) (C8.fnScope s_gate_moved) .none kV20 dc20 pm20 an20 cd20 ct20), sl20⟩)
    (c20 : PySem.W.codeIn K cd20 "gate_moved" = true)
    (k20 : PySem.W.keepIn K (.ref f20) = true)
    (a21 : PySem.W.nsIn K mainGlobals "_check_gates" = some (some (.ref f21)))
    (l21 : K.lookup f21 = some ⟨oc21, od21, .func (PySem.W.fnOf "_check_gates" "_check_gates" (C8.fnArgs s_check_gates) (C8.fnBody s_check_gates) (C8.fnScope s_check_gates) .none kV21 dc21 pm21 an21 cd21 ct21), sl21⟩)
    (c21 : PySem.W.codeIn K cd21 "_check_gates" = true)
    (k21 : PySem.W.keepIn K (.ref f21) = true)
    (a22 : PySem.W.nsIn K mainGlobals "check_position" = some (some (.ref f22)))
    (l22 : K.lookup f22 = some ⟨oc22, od22, .func (PySem.W.fnOf "check_position" "check_position" (C8.fnArgs s_check_position) (C8.fnBody s_check_position) (C8.fnScope s_check_position) .none kV22 dc22 pm22 an22 cd22 ct22), sl22⟩)
    (c22 : PySem.W.codeIn K cd22 "check_position" = true)
    (k22 : PySem.W.keepIn K (.ref f22) = true)
    (a23 : PySem.W.nsIn K mainGlobals "_law_pot" = some (some (.ref f23)))
    (l23 : K.lookup f23 = some ⟨oc23, od23, .func (PySem.W.fnOf "_law_pot" "_law_pot" (C8.fnArgs s_law_pot) (C8.fnBody s_law_pot) (C8.fnScope s_law_pot) .none kV23 dc23 pm23 an23 cd23 ct23), sl23⟩)
    (c23 : PySem.W.codeIn K cd23 "_law_pot" = true)
    (k23 : PySem.W.keepIn K (.ref f23) = true)
    (a24 : PySem.W.nsIn K mainGlobals "_law_draw" = some (some (.ref f24)))
    (l24 : K.lookup f24 = some ⟨oc24, od24, .func (PySem.W.fnOf "_law_draw" "_law_draw" (C8.fnArgs s_law_draw) (C8.fnBody s_law_draw) (C8.fnScope s_law_draw) .none kV24 dc24 pm24 an24 cd24 ct24), sl24⟩)
    (c24 : PySem.W.codeIn K cd24 "_law_draw" = true)
    (k24 : PySem.W.keepIn K (.ref f24) = true)
    (a25 : PySem.W.nsIn K mainGlobals "_law_pick" = some (some (.ref f25)))
    (l25 : K.lookup f25 = some ⟨oc25, od25, .func (PySem.W.fnOf "_law_pick" "_law_pick" (C8.fnArgs s_law_pick) (C8.fnBody s_law_pick) (C8.fnScope s_law_pick) .none kV25 dc25 pm25 an25 cd25 ct25), sl25⟩)
    (c25 : PySem.W.codeIn K cd25 "_law_pick" = true)
    (k25 : PySem.W.keepIn K (.ref f25) = true)
    (a26 : PySem.W.nsIn K mainGlobals "_law_mixed" = some (some (.ref f26)))
    (l26 : K.lookup f26 = some ⟨oc26, od26, .func (PySem.W.fnOf "_law_mixed" "_law_mixed" (C8.fnArgs s_law_mixed) (C8.fnBody s_law_mixed) (C8.fnScope s_law_mixed) .none kV26 dc26 pm26 an26 cd26 ct26), sl26⟩)
    (c26 : PySem.W.codeIn K cd26 "_law_mixed" = true)
    (k26 : PySem.W.keepIn K (.ref f26) = true)
    (a27 : PySem.W.nsIn K mainGlobals "_law_gate" = some (some (.ref f27)))
    (l27 : K.lookup f27 = some ⟨oc27, od27, .func (PySem.W.fnOf "_law_gate" "_law_gate" (C8.fnArgs s_law_gate) (C8.fnBody s_law_gate) (C8.fnScope s_law_gate) .none kV27 dc27 pm27 an27 cd27 ct27), sl27⟩)
    (c27 : PySem.W.codeIn K cd27 "_law_gate" = true)
    (k27 : PySem.W.keepIn K (.ref f27) = true)
    (a28 : PySem.W.nsIn K mainGlobals "_law_gates" = some (some (.ref f28)))
    (l28 : K.lookup f28 = some ⟨oc28, od28, .func (PySem.W.fnOf "_law_gates" "_law_gates" (C8.fnArgs s_law_gates) (C8.fnBody s_law_gates) (C8.fnScope s_law_gates) .none kV28 dc28 pm28 an28 cd28 ct28), sl28⟩)
    (c28 : PySem.W.codeIn K cd28 "_law_gates" = true)
    (k28 : PySem.W.keepIn K (.ref f28) = true)
    (a29 : PySem.W.nsIn K mainGlobals "_law_content" = some (some (.ref f29)))
    (l29 : K.lookup f29 = some ⟨oc29, od29, .func (PySem.W.fnOf "_law_content" "_law_content" (C8.fnArgs s_law_content) (C8.fnBody s_law_content) (C8.fnScope s_law_content) .none kV29 dc29 pm29 an29 cd29 ct29), sl29⟩)
    (c29 : PySem.W.codeIn K cd29 "_law_content" = true)
    (k29 : PySem.W.keepIn K (.ref f29) = true)
    (a30 : PySem.W.nsIn K mainGlobals "_law_behind_right" = some (some (.ref f30)))
    (l30 : K.lookup f30 = some ⟨oc30, od30, .func (PySem.W.fnOf "_law_behind_right" "_law_behind_right" (C8.fnArgs s_law_behind_right) (C8.fnBody s_law_behind_right) (C8.fnScope s_law_behind_right) .none kV30 dc30 pm30 an30 cd30 ct30), sl30⟩)
    (c30 : PySem.W.codeIn K cd30 "_law_behind_right" = true)
    (k30 : PySem.W.keepIn K (.ref f30) = true)
    (a31 : PySem.W.nsIn K mainGlobals "_law_beside_right" = some (some (.ref f31)))
    (l31 : K.lookup f31 = some ⟨oc31, od31, .func (PySem.W.fnOf "_law_beside_right" "_law_beside_right" (C8.fnArgs s_law_beside_right) (C8.fnBody s_law_beside_right) (C8.fnScope s_law_beside_right) .none kV31 dc31 pm31 an31 cd31 ct31), sl31⟩)
    (c31 : PySem.W.codeIn K cd31 "_law_beside_right" = true)
    (k31 : PySem.W.keepIn K (.ref f31) = true)
    (a32 : PySem.W.nsIn K mainGlobals "_law_moved_right" = some (some (.ref f32)))
    (l32 : K.lookup f32 = some ⟨oc32, od32, .func (PySem.W.fnOf "_law_moved_right" "_law_moved_right" (C8.fnArgs s_law_moved_right) (C8.fnBody s_law_moved_right) (C8.fnScope s_law_moved_right) .none kV32 dc32 pm32 an32 cd32 ct32), sl32⟩)
    (c32 : PySem.W.codeIn K cd32 "_law_moved_right" = true)
    (k32 : PySem.W.keepIn K (.ref f32) = true)
    (a33 : PySem.W.nsIn K mainGlobals "_law_turned_right" = some (some (.ref f33)))
    (l33 : K.lookup f33 = some ⟨oc33, od33, .func (PySem.W.fnOf "_law_turned_right" "_law_turned_right" (C8.fnArgs s_law_turned_right) (C8.fnBody s_law_turned_right) (C8.fnScope s_law_turned_right) .none kV33 dc33 pm33 an33 cd33 ct33), sl33⟩)
    (c33 : PySem.W.codeIn K cd33 "_law_turned_right" = true)
    (k33 : PySem.W.keepIn K (.ref f33) = true)
    (a34 : PySem.W.nsIn K mainGlobals "_law_places_right" = some (some (.ref f34)))
    (l34 : K.lookup f34 = some ⟨oc34, od34, .func (PySem.W.fnOf "_law_places_right" "_law_places_right" (C8.fnArgs s_law_places_right) (C8.fnBody s_law_places_right) (C8.fnScope s_law_places_right) .none kV34 dc34 pm34 an34 cd34 ct34), sl34⟩)
    (c34 : PySem.W.codeIn K cd34 "_law_places_right" = true)
    (k34 : PySem.W.keepIn K (.ref f34) = true)
    (a35 : PySem.W.nsIn K mainGlobals "_law_right" = some (some (.ref f35)))
    (l35 : K.lookup f35 = some ⟨oc35, od35, .func (PySem.W.fnOf "_law_right" "_law_right" (C8.fnArgs s_law_right) (C8.fnBody s_law_right) (C8.fnScope s_law_right) .none kV35 dc35 pm35 an35 cd35 ct35), sl35⟩)
    (c35 : PySem.W.codeIn K cd35 "_law_right" = true)
    (k35 : PySem.W.keepIn K (.ref f35) = true)
    (a36 : PySem.W.nsIn K mainGlobals "law" = some (some (.ref f36)))
    (l36 : K.lookup f36 = some ⟨oc36, od36, .func (PySem.W.fnOf "law" "law" (C8.fnArgs s_law) (C8.fnBody s_law) (C8.fnScope s_law) .none kV36 dc36 pm36 an36 cd36 ct36), sl36⟩)
    (c36 : PySem.W.codeIn K cd36 "law" = true)
    (k36 : PySem.W.keepIn K (.ref f36) = true)
    (aC : PySem.W.nsIn K mainGlobals "Net" = some (some (.ref C)))
    (pg : PySem.W.plainGet K C Str.empty = true)
    (hd : PySem.W.hasDictIn K C = true)
    (po : PySem.W.plainOver K C = true)
    (sa : PySem.W.findIn K (.ref C) "__setattr__" = some (some (.builtin "object.__setattr__")))
    (mk : PySem.W.makesIn K C = true)
    (kc : PySem.W.keepIn K (.ref C) = true)
    (nL : PySem.W.findIn K (.ref C) "_lanes" = some none)
    (nG : PySem.W.findIn K (.ref C) "_gates" = some none)
    (rd : PySem.W.readsIn K C (.type "type") = true)
    (ga : PySem.W.specialIn K (.ref C) "__getattribute__" = some (some (.builtin "type.__getattribute__")))
    (vM : PySem.W.findCls K (.ref C) (.type "type") "MOST_GATES" = some (.val (.int 400 tM)))
    (vN : PySem.W.findIn K (.ref C) "MOST_GATES" = some (some (.int 400 tN)))
    (vG : PySem.W.specialIn K (.int 400 tN) "__get__" = some none)
    (vA : PySem.W.nsIn K mainGlobals "LANES_AT_MOST" = some (some (.int 12 tA)))
    (vT : PySem.W.nsIn K mainGlobals "_TWO_LANE_WORDS" = some (some (.ref aT)))
    (lT : K.lookup aT = some ⟨.type "tuple", dT, .seq #[.str "low" t1, .str "high" t2, .str "sort" t3, .str "copy" t4] nT, sT⟩)
    (qa : PySem.W.findIn K (.ref C) "__class__" = some (some (.builtin "object.__class__")))
    (qn : PySem.W.specialIn K (.builtin "object.__class__") "__get__" = some (some (.builtin "getset_descriptor.__get__")))
    (qt : PySem.W.takesIn K (.builtin "object.__class__") = some true)
    (qm : PySem.W.mroIn K C (.type "object") = some true)
    (oF : PySem.W.selfFirst K C = true)
    (vJ : PySem.W.findIn K (.ref C) "MOST_LANES" = some (some (.int 12 tJ)))
    (vK : PySem.W.specialIn K (.int 12 tJ) "__get__" = some none)
    (qe : PySem.W.findIn K (.ref C) "__ne__" = some (some (.builtin "object.__ne__")))
    (oR : PySem.W.findIn K (.ref C) (PySem.dunderR Operator.Mult.info.2) = some none)
    (o1 : PySem.W.findIn K (.type "int") (PySem.dunder Operator.Mult.info.2) = some fo)
    (o2 : PySem.W.findIn K (.type "int") (PySem.dunderR Operator.Mult.info.2) = some ro)
    (oS : PySem.W.subIn K (.type "int") (.ref C) = some false)
    (a37 : PySem.W.findIn K (.ref C) "__init__" = some (some (.ref f37)))
    (l37 : K.lookup f37 = some ⟨oc37, od37, .func (PySem.W.fnOf "__init__" "Net.__init__" (C8.fnArgs s_Net_init) (C8.fnBody s_Net_init) (C8.fnScope s_Net_init) (.ref TD) kV37 dc37 pm37 an37 cd37 ct37), sl37⟩)
    (c37 : PySem.W.codeIn K cd37 "Net.__init__" = true)
    (i37 : PySem.W.isFn K (.ref f37) = true)
    (lD : K.lookup TD = some ⟨oD, dO, .seq #[.ref eD] nD, sD⟩)
    (lE : K.lookup eD = some ⟨.type "tuple", dE, .seq #[] nE, sE⟩)
    (k37 : PySem.W.keepIn K (.ref f37) = true)
    (a38 : PySem.W.findIn K (.ref C) "__len__" = some (some (.ref f38)))
    (l38 : K.lookup f38 = some ⟨oc38, od38, .func (PySem.W.fnOf "__len__" "Net.__len__" (C8.fnArgs s_Net_len) (C8.fnBody s_Net_len) (C8.fnScope s_Net_len) .none kV38 dc38 pm38 an38 cd38 ct38), sl38⟩)
    (c38 : PySem.W.codeIn K cd38 "Net.__len__" = true)
    (i38 : PySem.W.isFn K (.ref f38) = true)
    (a39 : PySem.W.findIn K (.ref C) "__getitem__" = some (some (.ref f39)))
    (l39 : K.lookup f39 = some ⟨oc39, od39, .func (PySem.W.fnOf "__getitem__" "Net.__getitem__" (C8.fnArgs s_Net_getitem) (C8.fnBody s_Net_getitem) (C8.fnScope s_Net_getitem) .none kV39 dc39 pm39 an39 cd39 ct39), sl39⟩)
    (c39 : PySem.W.codeIn K cd39 "Net.__getitem__" = true)
    (i39 : PySem.W.isFn K (.ref f39) = true)
    (n39 : PySem.W.fnIn K f39 = true)
    (a40 : PySem.W.findIn K (.ref C) "__call__" = some (some (.ref f40)))
    (l40 : K.lookup f40 = some ⟨oc40, od40, .func (PySem.W.fnOf "__call__" "Net.__call__" (C8.fnArgs s_Net_call) (C8.fnBody s_Net_call) (C8.fnScope s_Net_call) .none kV40 dc40 pm40 an40 cd40 ct40), sl40⟩)
    (c40 : PySem.W.codeIn K cd40 "Net.__call__" = true)
    (i40 : PySem.W.isFn K (.ref f40) = true)
    (n40 : PySem.W.fnIn K f40 = true)
    (a41 : PySem.W.findIn K (.ref C) (PySem.dunder Operator.Add.info.2) = some (some (.ref f41)))
    (l41 : K.lookup f41 = some ⟨oc41, od41, .func (PySem.W.fnOf "__add__" "Net.__add__" (C8.fnArgs s_Net_add) (C8.fnBody s_Net_add) (C8.fnScope s_Net_add) .none kV41 dc41 pm41 an41 cd41 ct41), sl41⟩)
    (c41 : PySem.W.codeIn K cd41 "Net.__add__" = true)
    (i41 : PySem.W.isFn K (.ref f41) = true)
    (a42 : PySem.W.findIn K (.ref C) (PySem.dunder Operator.Mult.info.2) = some (some (.ref f42)))
    (l42 : K.lookup f42 = some ⟨oc42, od42, .func (PySem.W.fnOf "__mul__" "Net.__mul__" (C8.fnArgs s_Net_mul) (C8.fnBody s_Net_mul) (C8.fnScope s_Net_mul) .none kV42 dc42 pm42 an42 cd42 ct42), sl42⟩)
    (c42 : PySem.W.codeIn K cd42 "Net.__mul__" = true)
    (i42 : PySem.W.isFn K (.ref f42) = true)
    (a43 : PySem.W.findIn K (.ref C) "__neg__" = some (some (.ref f43)))
    (l43 : K.lookup f43 = some ⟨oc43, od43, .func (PySem.W.fnOf "__neg__" "Net.__neg__" (C8.fnArgs s_Net_neg) (C8.fnBody s_Net_neg) (C8.fnScope s_Net_neg) .none kV43 dc43 pm43 an43 cd43 ct43), sl43⟩)
    (c43 : PySem.W.codeIn K cd43 "Net.__neg__" = true)
    (i43 : PySem.W.isFn K (.ref f43) = true)
    (a44 : PySem.W.findIn K (.ref C) "__eq__" = some (some (.ref f44)))
    (l44 : K.lookup f44 = some ⟨oc44, od44, .func (PySem.W.fnOf "__eq__" "Net.__eq__" (C8.fnArgs s_Net_eq) (C8.fnBody s_Net_eq) (C8.fnScope s_Net_eq) .none kV44 dc44 pm44 an44 cd44 ct44), sl44⟩)
    (c44 : PySem.W.codeIn K cd44 "Net.__eq__" = true)
    (i44 : PySem.W.isFn K (.ref f44) = true)
    (a45 : PySem.W.findIn K (.ref C) "__repr__" = some (some (.ref f45)))
    (l45 : K.lookup f45 = some ⟨oc45, od45, .func (PySem.W.fnOf "__repr__" "Net.__repr__" (C8.fnArgs s_Net_repr) (C8.fnBody s_Net_repr) (C8.fnScope s_Net_repr) .none kV45 dc45 pm45 an45 cd45 ct45), sl45⟩)
    (c45 : PySem.W.codeIn K cd45 "Net.__repr__" = true)
    (i45 : PySem.W.isFn K (.ref f45) = true)
    (a46 : PySem.W.findIn K (.ref C) "beside" = some (some (.ref f46)))
    (l46 : K.lookup f46 = some ⟨oc46, od46, .func (PySem.W.fnOf "beside" "Net.beside" (C8.fnArgs s_Net_beside) (C8.fnBody s_Net_beside) (C8.fnScope s_Net_beside) .none kV46 dc46 pm46 an46 cd46 ct46), sl46⟩)
    (c46 : PySem.W.codeIn K cd46 "Net.beside" = true)
    (i46 : PySem.W.isFn K (.ref f46) = true)
    (k46 : PySem.W.keepIn K (.ref f46) = true)
    (a47 : PySem.W.findIn K (.ref C) "renumbered" = some (some (.ref f47)))
    (l47 : K.lookup f47 = some ⟨oc47, od47, .func (PySem.W.fnOf "renumbered" "Net.renumbered" (C8.fnArgs s_Net_renumbered) (C8.fnBody s_Net_renumbered) (C8.fnScope s_Net_renumbered) .none kV47 dc47 pm47 an47 cd47 ct47), sl47⟩)
    (c47 : PySem.W.codeIn K cd47 "Net.renumbered" = true)
    (i47 : PySem.W.isFn K (.ref f47) = true)
    (k47 : PySem.W.keepIn K (.ref f47) = true)
    (a48 : PySem.W.findIn K (.ref C) "wider" = some (some (.ref f48)))
    (l48 : K.lookup f48 = some ⟨oc48, od48, .func (PySem.W.fnOf "wider" "Net.wider" (C8.fnArgs s_Net_wider) (C8.fnBody s_Net_wider) (C8.fnScope s_Net_wider) .none kV48 dc48 pm48 an48 cd48 ct48), sl48⟩)
    (c48 : PySem.W.codeIn K cd48 "Net.wider" = true)
    (i48 : PySem.W.isFn K (.ref f48) = true)
    (k48 : PySem.W.keepIn K (.ref f48) = true)
    (a49 : PySem.W.findIn K (.ref C) "with_gate" = some (some (.ref f49)))
    (l49 : K.lookup f49 = some ⟨oc49, od49, .func (PySem.W.fnOf "with_gate" "Net.with_gate" (C8.fnArgs s_Net_with_gate) (C8.fnBody s_Net_with_gate) (C8.fnScope s_Net_with_gate) .none kV49 dc49 pm49 an49 cd49 ct49), sl49⟩)
    (c49 : PySem.W.codeIn K cd49 "Net.with_gate" = true)
    (i49 : PySem.W.isFn K (.ref f49) = true)
    (k49 : PySem.W.keepIn K (.ref f49) = true)
    (a50 : PySem.W.findIn K (.ref C) "without" = some (some (.ref f50)))
    (l50 : K.lookup f50 = some ⟨oc50, od50, .func (PySem.W.fnOf "without" "Net.without" (C8.fnArgs s_Net_without) (C8.fnBody s_Net_without) (C8.fnScope s_Net_without) .none kV50 dc50 pm50 an50 cd50 ct50), sl50⟩)
    (c50 : PySem.W.codeIn K cd50 "Net.without" = true)
    (i50 : PySem.W.isFn K (.ref f50) = true)
    (k50 : PySem.W.keepIn K (.ref f50) = true)
    (a51 : PySem.W.findIn K (.ref C) "cut" = some (some (.ref f51)))
    (l51 : K.lookup f51 = some ⟨oc51, od51, .func (PySem.W.fnOf "cut" "Net.cut" (C8.fnArgs s_Net_cut) (C8.fnBody s_Net_cut) (C8.fnScope s_Net_cut) .none kV51 dc51 pm51 an51 cd51 ct51), sl51⟩)
    (c51 : PySem.W.codeIn K cd51 "Net.cut" = true)
    (i51 : PySem.W.isFn K (.ref f51) = true)
    (k51 : PySem.W.keepIn K (.ref f51) = true)
    (a52 : PySem.W.findIn K (.ref C) "exchanged" = some (some (.ref f52)))
    (l52 : K.lookup f52 = some ⟨oc52, od52, .func (PySem.W.fnOf "exchanged" "Net.exchanged" (C8.fnArgs s_Net_exchanged) (C8.fnBody s_Net_exchanged) (C8.fnScope s_Net_exchanged) .none kV52 dc52 pm52 an52 cd52 ct52), sl52⟩)
    (c52 : PySem.W.codeIn K cd52 "Net.exchanged" = true)
    (i52 : PySem.W.isFn K (.ref f52) = true)
    (k52 : PySem.W.keepIn K (.ref f52) = true)
    (a53 : PySem.W.findIn K (.ref C) "lanes" = some (some (.ref p53)))
    (r53' : PySem.W.recIn K p53 "property" = some (.ref f53 :: r53))
    (l53 : K.lookup f53 = some ⟨oc53, od53, .func (PySem.W.fnOf "lanes" "Net.lanes" (C8.fnArgs s_Net_lanes) (C8.fnBody s_Net_lanes) (C8.fnScope s_Net_lanes) .none kV53 dc53 pm53 an53 cd53 ct53), sl53⟩)
    (c53 : PySem.W.codeIn K cd53 "Net.lanes" = true)
    (g53 : PySem.W.specialIn K (.ref p53) "__get__" = some (some (.builtin "property.__get__")))
    (t53 : PySem.W.takesIn K (.ref p53) = some true)
    (a54 : PySem.W.findCls K (.ref C) (.type "type") "of" = some (.get (.builtin "classmethod.__get__") (.ref p54) .none (.ref C)))
    (r54' : PySem.W.recIn K p54 "classmethod" = some (.ref f54 :: r54))
    (l54 : K.lookup f54 = some ⟨oc54, od54, .func (PySem.W.fnOf "of" "Net.of" (C8.fnArgs s_Net_of) (C8.fnBody s_Net_of) (C8.fnScope s_Net_of) .none kV54 dc54 pm54 an54 cd54 ct54), sl54⟩)
    (c54 : PySem.W.codeIn K cd54 "Net.of" = true)
    (n54 : PySem.W.fnIn K f54 = true)
    : ∃ fd : FuncData, (∀ (s : Shared) (v : Value), BindsTo s fd ⟨[v], []⟩ [("_law_script", v)]) ∧ ∀ base : Heap, K.In base → base.Ns mainGlobals mg → FnQ NoG l.prog w K mg base 12 fa fd ["_law_script"] (sp_law K) := by
  have b_abs : mg "abs" = none := PySem.W.mg_none_of X G z_abs
  have b_all : mg "all" = none := PySem.W.mg_none_of X G z_all
  have b_bool : mg "bool" = none := PySem.W.mg_none_of X G z_bool
  have b_divmod : mg "divmod" = none := PySem.W.mg_none_of X G z_divmod
  have b_enumerate : mg "enumerate" = none := PySem.W.mg_none_of X G z_enumerate
  have b_int : mg "int" = none := PySem.W.mg_none_of X G z_int
  have b_isinstance : mg "isinstance" = none := PySem.W.mg_none_of X G z_isinstance
  have b_len : mg "len" = none := PySem.W.mg_none_of X G z_len
  have b_list : mg "list" = none := PySem.W.mg_none_of X G z_list
  have b_max : mg "max" = none := PySem.W.mg_none_of X G z_max
  have b_min : mg "min" = none := PySem.W.mg_none_of X G z_min
  have b_range : mg "range" = none := PySem.W.mg_none_of X G z_range
  have b_repr : mg "repr" = none := PySem.W.mg_none_of X G z_repr
  have b_sorted : mg "sorted" = none := PySem.W.mg_none_of X G z_sorted
  have b_str : mg "str" = none := PySem.W.mg_none_of X G z_str
  have b_tuple : mg "tuple" = none := PySem.W.mg_none_of X G z_tuple
  have b_zip : mg "zip" = none := PySem.W.mg_none_of X G z_zip
  have F1 := funMk (st := s_is_integer) l1 c1
  have d_is_integer : DefAt K mg "is_integer" s_is_integer ["value"] := ⟨f1, _, ⟨F1, PySem.W.mg_of X G a1, k1⟩, C8.Fun.binds F1 rfl fun _ _ _ _ _ _ us hl => match us, hl with | [_], _ => rfl⟩
  have F2 := funMk (st := s_is_count) l2 c2
  have d_is_count : DefAt K mg "is_count" s_is_count ["value"] := ⟨f2, _, ⟨F2, PySem.W.mg_of X G a2, k2⟩, C8.Fun.binds F2 rfl fun _ _ _ _ _ _ us hl => match us, hl with | [_], _ => rfl⟩
  have F3 := funMk (st := s_is_list) l3 c3
  have d_is_list : DefAt K mg "is_list" s_is_list ["value"] := ⟨f3, _, ⟨F3, PySem.W.mg_of X G a3, k3⟩, C8.Fun.binds F3 rfl fun _ _ _ _ _ _ us hl => match us, hl with | [_], _ => rfl⟩
  have F4 := funMk (st := s_is_content) l4 c4
  have d_is_content : DefAt K mg "is_content" s_is_content ["value"] := ⟨f4, _, ⟨F4, PySem.W.mg_of X G a4, k4⟩, C8.Fun.binds F4 rfl fun _ _ _ _ _ _ us hl => match us, hl with | [_], _ => rfl⟩
  have F5 := funMk (st := s_has_lanes) l5 c5
  have d_has_lanes : DefAt K mg "_has_lanes" s_has_lanes ["value"] := ⟨f5, _, ⟨F5, PySem.W.mg_of X G a5, k5⟩, C8.Fun.binds F5 rfl fun _ _ _ _ _ _ us hl => match us, hl with | [_], _ => rfl⟩
  have F6 := funMk (st := s_is_lane) l6 c6
  have d_is_lane : DefAt K mg "is_lane" s_is_lane ["value", "lanes"] := ⟨f6, _, ⟨F6, PySem.W.mg_of X G a6, k6⟩, C8.Fun.binds F6 rfl fun _ _ _ _ _ _ us hl => match us, hl with | [_, _], _ => rfl⟩
  have F7 := funMk (st := s_is_order) l7 c7
  have d_is_order : DefAt K mg "is_order" s_is_order ["value", "lanes"] := ⟨f7, _, ⟨F7, PySem.W.mg_of X G a7, k7⟩, C8.Fun.binds F7 rfl fun _ _ _ _ _ _ us hl => match us, hl with | [_, _], _ => rfl⟩
  have F8 := funMk (st := s_check_content) l8 c8
  have d_check_content : DefAt K mg "check_content" s_check_content ["content", "lanes"] := ⟨f8, _, ⟨F8, PySem.W.mg_of X G a8, k8⟩, C8.Fun.binds F8 rfl fun _ _ _ _ _ _ us hl => match us, hl with | [_, _], _ => rfl⟩
  have F9 := funMk (st := s_check_any_content) l9 c9
  have d_check_any_content : DefAt K mg "check_any_content" s_check_any_content ["content"] := ⟨f9, _, ⟨F9, PySem.W.mg_of X G a9, k9⟩, C8.Fun.binds F9 rfl fun _ _ _ _ _ _ us hl => match us, hl with | [_], _ => rfl⟩
  have F10 := funMk (st := s_check_lanes) l10 c10
  have d_check_lanes : DefAt K mg "check_lanes" s_check_lanes ["lanes", "least"] := ⟨f10, _, ⟨F10, PySem.W.mg_of X G a10, k10⟩, C8.Fun.binds F10 rfl fun _ _ _ _ _ _ us hl => match us, hl with | [_, _], _ => rfl⟩
  have F11 := funMk (st := s_check_number) l11 c11
  have d_check_number : DefAt K mg "check_number" s_check_number ["number"] := ⟨f11, _, ⟨F11, PySem.W.mg_of X G a11, k11⟩, C8.Fun.binds F11 rfl fun _ _ _ _ _ _ us hl => match us, hl with | [_], _ => rfl⟩
  have F12 := funMk (st := s_check_many) l12 c12
  have d_check_many : DefAt K mg "check_many" s_check_many ["many"] := ⟨f12, _, ⟨F12, PySem.W.mg_of X G a12, k12⟩, C8.Fun.binds F12 rfl fun _ _ _ _ _ _ us hl => match us, hl with | [_], _ => rfl⟩
  have F13 := funMk (st := s_check_order) l13 c13
  have d_check_order : DefAt K mg "check_order" s_check_order ["order", "lanes"] := ⟨f13, _, ⟨F13, PySem.W.mg_of X G a13, k13⟩, C8.Fun.binds F13 rfl fun _ _ _ _ _ _ us hl => match us, hl with | [_, _], _ => rfl⟩
  have F14 := funMk (st := s_raised) l14 c14
  have d_raised : DefAt K mg "raised" s_raised ["content", "number"] := ⟨f14, _, ⟨F14, PySem.W.mg_of X G a14, k14⟩, C8.Fun.binds F14 rfl fun _ _ _ _ _ _ us hl => match us, hl with | [_, _], _ => rfl⟩
  have F15 := funMk (st := s_turned) l15 c15
  have d_turned : DefAt K mg "turned" s_turned ["content"] := ⟨f15, _, ⟨F15, PySem.W.mg_of X G a15, k15⟩, C8.Fun.binds F15 rfl fun _ _ _ _ _ _ us hl => match us, hl with | [_], _ => rfl⟩
  have F16 := funMk (st := s_moved) l16 c16
  have d_moved : DefAt K mg "moved" s_moved ["content", "order"] := ⟨f16, _, ⟨F16, PySem.W.mg_of X G a16, k16⟩, C8.Fun.binds F16 rfl fun _ _ _ _ _ _ us hl => match us, hl with | [_, _], _ => rfl⟩
  have F17 := funMk (st := s_is_gate) l17 c17
  have d_is_gate : DefAt K mg "is_gate" s_is_gate ["value", "lanes"] := ⟨f17, _, ⟨F17, PySem.W.mg_of X G a17, k17⟩, C8.Fun.binds F17 rfl fun _ _ _ _ _ _ us hl => match us, hl with | [_, _], _ => rfl⟩
  have F18 := funMk (st := s_behind_gate) l18 c18
  have d_behind_gate : DefAt K mg "behind_gate" s_behind_gate ["gate", "content"] := ⟨f18, _, ⟨F18, PySem.W.mg_of X G a18, k18⟩, C8.Fun.binds F18 rfl fun _ _ _ _ _ _ us hl => match us, hl with | [_, _], _ => rfl⟩
  have F19 := funMk (st := s_turned_gate) l19 c19
  have d_turned_gate : DefAt K mg "turned_gate" s_turned_gate ["gate"] := ⟨f19, _, ⟨F19, PySem.W.mg_of X G a19, k19⟩, C8.Fun.binds F19 rfl fun _ _ _ _ _ _ us hl => match us, hl with | [_], _ => rfl⟩
  have F20 := funMk (st := s_gate_moved) l20 c20
  have d_gate_moved : DefAt K mg "gate_moved" s_gate_moved ["gate", "order"] := ⟨f20, _, ⟨F20, PySem.W.mg_of X G a20, k20⟩, C8.Fun.binds F20 rfl fun _ _ _ _ _ _ us hl => match us, hl with | [_, _], _ => rfl⟩
  have F21 := funMk (st := s_check_gates) l21 c21
  have d_check_gates : DefAt K mg "_check_gates" s_check_gates ["gates", "lanes"] := ⟨f21, _, ⟨F21, PySem.W.mg_of X G a21, k21⟩, C8.Fun.binds F21 rfl fun _ _ _ _ _ _ us hl => match us, hl with | [_, _], _ => rfl⟩
  have F22 := funMk (st := s_check_position) l22 c22
  have d_check_position : DefAt K mg "check_position" s_check_position ["position", "places"] := ⟨f22, _, ⟨F22, PySem.W.mg_of X G a22, k22⟩, C8.Fun.binds F22 rfl fun _ _ _ _ _ _ us hl => match us, hl with | [_, _], _ => rfl⟩
  have F23 := funMk (st := s_law_pot) l23 c23
  have d_law_pot : DefAt K mg "_law_pot" s_law_pot ["_law_script", "_law_k"] := ⟨f23, _, ⟨F23, PySem.W.mg_of X G a23, k23⟩, C8.Fun.binds F23 rfl fun _ _ _ _ _ _ us hl => match us, hl with | [_, _], _ => rfl⟩
  have F24 := funMk (st := s_law_draw) l24 c24
  have d_law_draw : DefAt K mg "_law_draw" s_law_draw ["_law_pot_here", "_law_size"] := ⟨f24, _, ⟨F24, PySem.W.mg_of X G a24, k24⟩, C8.Fun.binds F24 rfl fun _ _ _ _ _ _ us hl => match us, hl with | [_, _], _ => rfl⟩
  have F25 := funMk (st := s_law_pick) l25 c25
  have d_law_pick : DefAt K mg "_law_pick" s_law_pick ["_law_pot_here", "_law_some"] := ⟨f25, _, ⟨F25, PySem.W.mg_of X G a25, k25⟩, C8.Fun.binds F25 rfl fun _ _ _ _ _ _ us hl => match us, hl with | [_, _], _ => rfl⟩
  have F26 := funMk (st := s_law_mixed) l26 c26
  have d_law_mixed : DefAt K mg "_law_mixed" s_law_mixed ["_law_pot_here", "_law_some"] := ⟨f26, _, ⟨F26, PySem.W.mg_of X G a26, k26⟩, C8.Fun.binds F26 rfl fun _ _ _ _ _ _ us hl => match us, hl with | [_, _], _ => rfl⟩
  have F27 := funMk (st := s_law_gate) l27 c27
  have d_law_gate : DefAt K mg "_law_gate" s_law_gate ["_law_pot_here", "_law_lanes"] := ⟨f27, _, ⟨F27, PySem.W.mg_of X G a27, k27⟩, C8.Fun.binds F27 rfl fun _ _ _ _ _ _ us hl => match us, hl with | [_, _], _ => rfl⟩
  have F28 := funMk (st := s_law_gates) l28 c28
  have d_law_gates : DefAt K mg "_law_gates" s_law_gates ["_law_pot_here", "_law_lanes", "_law_most"] := ⟨f28, _, ⟨F28, PySem.W.mg_of X G a28, k28⟩, C8.Fun.binds F28 rfl fun _ _ _ _ _ _ us hl => match us, hl with | [_, _, _], _ => rfl⟩
  have F29 := funMk (st := s_law_content) l29 c29
  have d_law_content : DefAt K mg "_law_content" s_law_content ["_law_pot_here", "_law_lanes"] := ⟨f29, _, ⟨F29, PySem.W.mg_of X G a29, k29⟩, C8.Fun.binds F29 rfl fun _ _ _ _ _ _ us hl => match us, hl with | [_, _], _ => rfl⟩
  have F30 := funMk (st := s_law_behind_right) l30 c30
  have d_law_behind_right : DefAt K mg "_law_behind_right" s_law_behind_right ["_law_net", "_law_mate", "_law_content_here"] := ⟨f30, _, ⟨F30, PySem.W.mg_of X G a30, k30⟩, C8.Fun.binds F30 rfl fun _ _ _ _ _ _ us hl => match us, hl with | [_, _, _], _ => rfl⟩
  have F31 := funMk (st := s_law_beside_right) l31 c31
  have d_law_beside_right : DefAt K mg "_law_beside_right" s_law_beside_right ["_law_pot_here", "_law_net", "_law_lanes", "_law_other", "_law_far", "_law_content_here"] := ⟨f31, _, ⟨F31, PySem.W.mg_of X G a31, k31⟩, C8.Fun.binds F31 rfl fun _ _ _ _ _ _ us hl => match us, hl with | [_, _, _, _, _, _], _ => rfl⟩
  have F32 := funMk (st := s_law_moved_right) l32 c32
  have d_law_moved_right : DefAt K mg "_law_moved_right" s_law_moved_right ["_law_pot_here", "_law_net", "_law_lanes", "_law_content_here"] := ⟨f32, _, ⟨F32, PySem.W.mg_of X G a32, k32⟩, C8.Fun.binds F32 rfl fun _ _ _ _ _ _ us hl => match us, hl with | [_, _, _, _], _ => rfl⟩
  have F33 := funMk (st := s_law_turned_right) l33 c33
  have d_law_turned_right : DefAt K mg "_law_turned_right" s_law_turned_right ["_law_pot_here", "_law_net", "_law_mate", "_law_lanes", "_law_content_here"] := ⟨f33, _, ⟨F33, PySem.W.mg_of X G a33, k33⟩, C8.Fun.binds F33 rfl fun _ _ _ _ _ _ us hl => match us, hl with | [_, _, _, _, _], _ => rfl⟩
  have F34 := funMk (st := s_law_places_right) l34 c34
  have d_law_places_right : DefAt K mg "_law_places_right" s_law_places_right ["_law_pot_here", "_law_net", "_law_lanes", "_law_content_here"] := ⟨f34, _, ⟨F34, PySem.W.mg_of X G a34, k34⟩, C8.Fun.binds F34 rfl fun _ _ _ _ _ _ us hl => match us, hl with | [_, _, _, _], _ => rfl⟩
  have F35 := funMk (st := s_law_right) l35 c35
  have d_law_right : DefAt K mg "_law_right" s_law_right ["_law_pot_here"] := ⟨f35, _, ⟨F35, PySem.W.mg_of X G a35, k35⟩, C8.Fun.binds F35 rfl fun _ _ _ _ _ _ us hl => match us, hl with | [_], _ => rfl⟩
  have F36 := funMk (st := s_law) l36 c36
  have d_law : DefAt K mg "law" s_law ["_law_script"] := ⟨f36, _, ⟨F36, PySem.W.mg_of X G a36, k36⟩, C8.Fun.binds F36 rfl fun _ _ _ _ _ _ us hl => match us, hl with | [_], _ => rfl⟩
  have F37 := funMk (st := s_Net_init) l37 c37
  have F38 := funMk (st := s_Net_len) l38 c38
  have F39 := funMk (st := s_Net_getitem) l39 c39
  have F40 := funMk (st := s_Net_call) l40 c40
  have F41 := funMk (st := s_Net_add) l41 c41
  have F42 := funMk (st := s_Net_mul) l42 c42
  have F43 := funMk (st := s_Net_neg) l43 c43
  have F44 := funMk (st := s_Net_eq) l44 c44
  have F45 := funMk (st := s_Net_repr) l45 c45
  have F46 := funMk (st := s_Net_beside) l46 c46
  have F47 := funMk (st := s_Net_renumbered) l47 c47
  have F48 := funMk (st := s_Net_wider) l48 c48
  have F49 := funMk (st := s_Net_with_gate) l49 c49
  have F50 := funMk (st := s_Net_without) l50 c50
  have F51 := funMk (st := s_Net_cut) l51 c51
  have F52 := funMk (st := s_Net_exchanged) l52 c52
  have F53 := funMk (st := s_Net_lanes) l53 c53
  have F54 := funMk (st := s_Net_of) l54 c54
  have cl : Cls K C := ⟨pg, hd, po, sa⟩
  have FD : FunD K "__init__" "Net.__init__" (C8.fnArgs s_Net_init) (C8.fnBody s_Net_init) (C8.fnScope s_Net_init) [V.ref eD] [] f37 (PySem.W.fnOf "__init__" "Net.__init__" (C8.fnArgs s_Net_init) (C8.fnBody s_Net_init) (C8.fnScope s_Net_init) (.ref TD) kV37 dc37 pm37 an37 cd37 ct37) := ⟨⟨oc37, od37, .ref TD, kV37, dc37, pm37, an37, cd37, ct37, sl37, rfl, l37, c37, .inr ⟨(by intro z; cases z), TD, _, [Value.ref eD], nD, rfl, lD, rfl, .cons rfl .nil⟩, .inl rfl⟩, k37⟩
  have bI : Binds K (PySem.W.fnOf "__init__" "Net.__init__" (C8.fnArgs s_Net_init) (C8.fnBody s_Net_init) (C8.fnScope s_Net_init) (.ref TD) kV37 dc37 pm37 an37 cd37 ct37) ["self", "lanes", "gates"] [] := by
    obtain ⟨ds, hv, hb⟩ := FD.binds1 (ps := ["self", "lanes", "gates"]) 3 1 (by intro z; cases z) (by rfl) fun T kV doc pm an cdv ct us its h1 h2 => match us, h1, its, h2 with | [_, _, _], _, [_], _ => ⟨_, rfl, rfl⟩
    cases hv
    exact hb
  have bJ : Binds K (PySem.W.fnOf "__init__" "Net.__init__" (C8.fnArgs s_Net_init) (C8.fnBody s_Net_init) (C8.fnScope s_Net_init) (.ref TD) kV37 dc37 pm37 an37 cd37 ct37) ["self", "lanes", "gates"] [.ref eD] := by
    obtain ⟨ds, hv, hb⟩ := FD.binds1 (ps := ["self", "lanes", "gates"]) 2 0 (by intro z; cases z) (by rfl) fun T kV doc pm an cdv ct us its h1 h2 => match us, h1, its, h2 with | [_, _], _, [_], _ => ⟨_, rfl, rfl⟩
    cases hv with | cons h1 h2 => cases h2; cases h1; exact hb
  have T : Txt K mg C := {
    b_abs := b_abs
    b_all := b_all
    b_bool := b_bool
    b_divmod := b_divmod
    b_enumerate := b_enumerate
    b_int := b_int
    b_isinstance := b_isinstance
    b_len := b_len
    b_list := b_list
    b_max := b_max
    b_min := b_min
    b_range := b_range
    b_repr := b_repr
    b_sorted := b_sorted
    b_str := b_str
    b_tuple := b_tuple
    b_zip := b_zip
    d_is_integer := d_is_integer
    d_is_count := d_is_count
    d_is_list := d_is_list
    d_is_content := d_is_content
    d_has_lanes := d_has_lanes
    d_is_lane := d_is_lane
    d_is_order := d_is_order
    d_check_content := d_check_content
    d_check_any_content := d_check_any_content
    d_check_lanes := d_check_lanes
    d_check_number := d_check_number
    d_check_many := d_check_many
    d_check_order := d_check_order
    d_raised := d_raised
    d_turned := d_turned
    d_moved := d_moved
    d_is_gate := d_is_gate
    d_behind_gate := d_behind_gate
    d_turned_gate := d_turned_gate
    d_gate_moved := d_gate_moved
    d_check_gates := d_check_gates
    d_check_position := d_check_position
    d_law_pot := d_law_pot
    d_law_draw := d_law_draw
    d_law_pick := d_law_pick
    d_law_mixed := d_law_mixed
    d_law_gate := d_law_gate
    d_law_gates := d_law_gates
    d_law_content := d_law_content
    d_law_behind_right := d_law_behind_right
    d_law_beside_right := d_law_beside_right
    d_law_moved_right := d_law_moved_right
    d_law_turned_right := d_law_turned_right
    d_law_places_right := d_law_places_right
    d_law_right := d_law_right
    d_law := d_law
    gLANES_AT_MOST := ⟨_, PySem.W.mg_of X G vA, ⟨_, rfl⟩⟩
    gTWO := ⟨aT, PySem.W.mg_of X G vT, fun H => .inr ⟨_, _, _, lT, rfl, rfl, by show 4 ≤ sizeLine; decide, .cons ⟨_, rfl⟩ (.cons ⟨_, rfl⟩ (.cons ⟨_, rfl⟩ (.cons ⟨_, rfl⟩ .nil)))⟩⟩
    cl := cl
    mgC := PySem.W.mg_of X G aC
    nL := nL
    nG := nG
    cM := ⟨_, _, ⟨rd, ga⟩, ⟨vM, ⟨_, rfl⟩⟩⟩
    cI := ⟨_, vN, ⟨_, rfl⟩, vG, by decide⟩
    i_init := ⟨_, _, eD, F37, ⟨mk, a37, i37, kc⟩, fun H => .inr ⟨_, _, _, lE, rfl, rfl, by show 0 ≤ sizeLine; decide, .nil⟩, bI, bJ⟩
    i_of := ⟨_, _, _, _, F54, ⟨rd, ga⟩, ⟨a54, ⟨_, r54'⟩, n54⟩, fun us rest hl => match us, hl, rest with | [_, _], _, [] => rfl | [_, _], _, _ :: _ => rfl⟩
    i_cut := ⟨_, _, F51, ⟨a51, i51, k51⟩, C8.Fun.binds F51 rfl fun _ _ _ _ _ _ us hl => match us, hl with | [_, _], _ => rfl⟩
    i_ren := ⟨_, _, F47, ⟨a47, i47, k47⟩, C8.Fun.binds F47 rfl fun _ _ _ _ _ _ us hl => match us, hl with | [_, _], _ => rfl⟩
    i_beside := ⟨_, _, F46, ⟨a46, i46, k46⟩, C8.Fun.binds F46 rfl fun _ _ _ _ _ _ us hl => match us, hl with | [_, _], _ => rfl⟩
    i_wider := ⟨_, _, F48, ⟨a48, i48, k48⟩, C8.Fun.binds F48 rfl fun _ _ _ _ _ _ us hl => match us, hl with | [_, _], _ => rfl⟩
    i_with := ⟨_, _, F49, ⟨a49, i49, k49⟩, C8.Fun.binds F49 rfl fun _ _ _ _ _ _ us hl => match us, hl with | [_, _, _], _ => rfl⟩
    i_without := ⟨_, _, F50, ⟨a50, i50, k50⟩, C8.Fun.binds F50 rfl fun _ _ _ _ _ _ us hl => match us, hl with | [_, _], _ => rfl⟩
    i_exchanged := ⟨_, _, F52, ⟨a52, i52, k52⟩, C8.Fun.binds F52 rfl fun _ _ _ _ _ _ us hl => match us, hl with | [_, _], _ => rfl⟩
    i_call := ⟨_, _, F40, ⟨a40, i40, n40⟩, C8.Fun.binds F40 rfl fun _ _ _ _ _ _ us hl => match us, hl with | [_, _], _ => rfl, fun _ _ _ _ => .of_eq rfl⟩
    i_lanes := ⟨_, _, _, F53, ⟨a53, g53, t53, _, r53'⟩, C8.Fun.binds F53 rfl fun _ _ _ _ _ _ us hl => match us, hl with | [_], _ => rfl⟩
    i_getitem := ⟨_, _, F39, a39, i39, n39, C8.Fun.binds F39 rfl fun _ _ _ _ _ _ us hl => match us, hl with | [_, _], _ => rfl⟩
    i_len := ⟨_, _, F38, a38, i38, C8.Fun.binds F38 rfl fun _ _ _ _ _ _ us hl => match us, hl with | [_], _ => rfl⟩
    i_eq := ⟨_, _, F44, a44, i44, C8.Fun.binds F44 rfl fun _ _ _ _ _ _ us hl => match us, hl with | [_, _], _ => rfl⟩
    i_repr := ⟨_, _, F45, a45, i45, C8.Fun.binds F45 rfl fun _ _ _ _ _ _ us hl => match us, hl with | [_], _ => rfl⟩
    i_neg := ⟨_, _, F43, a43, i43, C8.Fun.binds F43 rfl fun _ _ _ _ _ _ us hl => match us, hl with | [_], _ => rfl⟩
    i_add := ⟨_, _, F41, a41, i41, C8.Fun.binds F41 rfl fun _ _ _ _ _ _ us hl => match us, hl with | [_, _], _ => rfl⟩
    i_mul := ⟨_, _, F42, a42, i42, C8.Fun.binds F42 rfl fun _ _ _ _ _ _ us hl => match us, hl with | [_, _], _ => rfl⟩
    o_first := oF
    o_rmul := oR
    o_int1 := ⟨_, o1⟩
    o_int2 := ⟨_, o2⟩
    o_sub := oS
    q_ha := qa
    cJ := ⟨_, vJ, ⟨_, rfl⟩, vK, by decide⟩
    q_ne := qe
    q_hn := qn
    q_ht := qt
    q_hm := qm }
  have e := hfa.symm.trans (PySem.W.mg_of X G a36)
  cases e
  exact ⟨_, fun s v => .of_eq rfl, fun base _ _ => ok_law T F36⟩
theorem walk {l : PySem.W.OpenLaw} {q : Program} {loose : List Str} {XP : (Str → Option Value) → Heap → Prop} {YP : World → Heap → Prop} {d : DefRec} {K : Params → PySem.W.Frag} (hn : l.most = some 63) (hdf : d.params.defaults = [])
    (hY : ∀ (w : World) (h : Heap), YP w h → (K w.params).In h)
    (F : ∀ (w : World) (mg : Str → Option Value) (fa : Addr) (h : Heap), (K w.params).In h → h.Ns mainGlobals mg → mg d.name = some (.ref fa) →
      ∃ fd : FuncData, (∀ (s : Shared) (u : Value), BindsTo s fd ⟨[u], []⟩ [("_law_script", u)]) ∧ ∀ base : Heap, (K w.params).In base → base.Ns mainGlobals mg → FnQ NoG l.prog w (K w.params) mg base 12 fa fd ["_law_script"] (sp_law (K w.params))) :
    PySem.W.WalkO q loose XP YP l.row.toRowW d [] (fun f vs => PySem.call f vs) :=
  walkQ (n := 63) (x := "_law_script") (sp := fun K => sp_law K) hn (by decide) hdf ⟨rfl, by decide, by decide⟩ hY F fun K G a ns hl hS => ⟨a, ns, rfl, hS, hl, fun _ => rfl⟩
end LL

open PySem PySem.W PyProof.Rows in
set_option maxRecDepth 100000 in
set_option maxHeartbeats 0 in
theorem PySem.Challenge.cw_lanelots_k16_whole_nets_turned_and_joine_holds : PySem.Challenge.rw_lanelots_k16_whole_nets_turned_and_joine.Holds := by
  w_on; o_law; k_head; (case hw => w_witness2)
  k_fill
  refine LL.walk (l := PySem.Challenge.rw_lanelots_k16_whole_nets_turned_and_joine) rfl rfl (fun w h Y => PySem.W.kIn_of Y) ?F
  case F =>
    intro w mg fa h KX G hmg
    refine' LL.all_mk KX G hmg ?z_abs ?z_all ?z_bool ?z_divmod ?z_enumerate ?z_int ?z_isinstance ?z_len ?z_list ?z_max ?z_min ?z_range ?z_repr ?z_sorted ?z_str ?z_tuple ?z_zip ?a1 ?l1 ?c1 ?k1 ?a2 ?l2 ?c2 ?k2 ?a3 ?l3 ?c3 ?k3 ?a4 ?l4 ?c4 ?k4 ?a5 ?l5 ?c5 ?k5 ?a6 ?l6 ?c6 ?k6 ?a7 ?l7 ?c7 ?k7 ?a8 ?l8 ?c8 ?k8 ?a9 ?l9 ?c9 ?k9 ?a10 ?l10 ?c10 ?k10 ?a11 ?l11 ?c11 ?k11 ?a12 ?l12 ?c12 ?k12 ?a13 ?l13 ?c13 ?k13 ?a14 ?l14 ?c14 ?k14 ?a15 ?l15 ?c15 ?k15 ?a16 ?l16 ?c16 ?k16 ?a17 ?l17 ?c17 ?k17 ?a18 ?l18 ?c18 ?k18 ?a19 ?l19 ?c19 ?k19 ?a20 ?l20 ?c20 ?k20 ?a21 ?l21 ?c21 ?k21 ?a22 ?l22 ?c22 ?k22 ?a23 ?l23 ?c23 ?k23 ?a24 ?l24 ?c24 ?k24 ?a25 ?l25 ?c25 ?k25 ?a26 ?l26 ?c26 ?k26 ?a27 ?l27 ?c27 ?k27 ?a28 ?l28 ?c28 ?k28 ?a29 ?l29 ?c29 ?k29 ?a30 ?l30 ?c30 ?k30 ?a31 ?l31 ?c31 ?k31 ?a32 ?l32 ?c32 ?k32 ?a33 ?l33 ?c33 ?k33 ?a34 ?l34 ?c34 ?k34 ?a35 ?l35 ?c35 ?k35 ?a36 ?l36 ?c36 ?k36 ?aC ?pg ?hd ?po ?sa ?mk ?kc ?nL ?nG ?rd ?ga ?vM ?vN ?vG ?vA ?vT ?lT ?qa ?qn ?qt ?qm ?oF ?vJ ?vK ?qe ?oR ?o1 ?o2 ?oS ?a37 ?l37 ?c37 ?i37 ?lD ?lE ?k37 ?a38 ?l38 ?c38 ?i38 ?a39 ?l39 ?c39 ?i39 ?n39 ?a40 ?l40 ?c40 ?i40 ?n40 ?a41 ?l41 ?c41 ?i41 ?a42 ?l42 ?c42 ?i42 ?a43 ?l43 ?c43 ?i43 ?a44 ?l44 ?c44 ?i44 ?a45 ?l45 ?c45 ?i45 ?a46 ?l46 ?c46 ?i46 ?k46 ?a47 ?l47 ?c47 ?i47 ?k47 ?a48 ?l48 ?c48 ?i48 ?k48 ?a49 ?l49 ?c49 ?i49 ?k49 ?a50 ?l50 ?c50 ?i50 ?k50 ?a51 ?l51 ?c51 ?i51 ?k51 ?a52 ?l52 ?c52 ?i52 ?k52 ?a53 ?r53' ?l53 ?c53 ?g53 ?t53 ?a54 ?r54' ?l54 ?c54 ?n54
    (case z_abs => k_is)
    (case z_all => k_is)
    (case z_bool => k_is)
    (case z_divmod => k_is)
    (case z_enumerate => k_is)
    (case z_int => k_is)
    (case z_isinstance => k_is)
    (case z_len => k_is)
    (case z_list => k_is)
    (case z_max => k_is)
    (case z_min => k_is)
    (case z_range => k_is)
    (case z_repr => k_is)
    (case z_sorted => k_is)
    (case z_str => k_is)
    (case z_tuple => k_is)
    (case z_zip => k_is)
    (case a1 => k_is)
    (case l1 => k_is)
    (case c1 => k_is)
    (case k1 => k_is)
    (case a2 => k_is)
    (case l2 => k_is)
    (case c2 => k_is)
    (case k2 => k_is)
    (case a3 => k_is)
    (case l3 => k_is)
    (case c3 => k_is)
    (case k3 => k_is)
    (case a4 => k_is)
    (case l4 => k_is)
    (case c4 => k_is)
    (case k4 => k_is)
    (case a5 => k_is)
    (case l5 => k_is)
    (case c5 => k_is)
    (case k5 => k_is)
    (case a6 => k_is)
    (case l6 => k_is)
    (case c6 => k_is)
    (case k6 => k_is)
    (case a7 => k_is)
    (case l7 => k_is)
    (case c7 => k_is)
    (case k7 => k_is)
    (case a8 => k_is)
    (case l8 => k_is)
    (case c8 => k_is)
    (case k8 => k_is)
    (case a9 => k_is)
    (case l9 => k_is)
    (case c9 => k_is)
    (case k9 => k_is)
    (case a10 => k_is)
    (case l10 => k_is)
    (case c10 => k_is)
    (case k10 => k_is)
    (case a11 => k_is)
    (case l11 => k_is)
    (case c11 => k_is)
    (case k11 => k_is)
    (case a12 => k_is)
    (case l12 => k_is)
    (case c12 => k_is)
    (case k12 => k_is)
    (case a13 => k_is)
    (case l13 => k_is)
    (case c13 => k_is)
    (case k13 => k_is)
    (case a14 => k_is)
    (case l14 => k_is)
    (case c14 => k_is)
    (case k14 => k_is)
    (case a15 => k_is)
    (case l15 => k_is)
    (case c15 => k_is)
    (case k15 => k_is)
    (case a16 => k_is)
    (case l16 => k_is)
    (case c16 => k_is)
    (case k16 => k_is)
    (case a17 => k_is)
    (case l17 => k_is)
    (case c17 => k_is)
    (case k17 => k_is)
    (case a18 => k_is)
    (case l18 => k_is)
    (case c18 => k_is)
    (case k18 => k_is)
    (case a19 => k_is)
    (case l19 => k_is)
    (case c19 => k_is)
    (case k19 => k_is)
    (case a20 => k_is)
    (case l20 => k_is)
    (case c20 => k_is)
    (case k20 => k_is)
    (case a21 => k_is)
    (case l21 => k_is)
    (case c21 => k_is)
    (case k21 => k_is)
    (case a22 => k_is)
    (case l22 => k_is)
    (case c22 => k_is)
    (case k22 => k_is)
    (case a23 => k_is)
    (case l23 => k_is)
    (case c23 => k_is)
    (case k23 => k_is)
    (case a24 => k_is)
    (case l24 => k_is)
    (case c24 => k_is)
    (case k24 => k_is)
    (case a25 => k_is)
    (case l25 => k_is)
    (case c25 => k_is)
    (case k25 => k_is)
    (case a26 => k_is)
    (case l26 => k_is)
    (case c26 => k_is)
    (case k26 => k_is)
    (case a27 => k_is)
    (case l27 => k_is)
    (case c27 => k_is)
    (case k27 => k_is)
    (case a28 => k_is)
    (case l28 => k_is)
    (case c28 => k_is)
    (case k28 => k_is)
    (case a29 => k_is)
    (case l29 => k_is)
    (case c29 => k_is)
    (case k29 => k_is)
    (case a30 => k_is)
    (case l30 => k_is)
    (case c30 => k_is)
    (case k30 => k_is)
    (case a31 => k_is)
    (case l31 => k_is)
    (case c31 => k_is)
    (case k31 => k_is)
    (case a32 => k_is)
    (case l32 => k_is)
    (case c32 => k_is)
    (case k32 => k_is)
    (case a33 => k_is)
    (case l33 => k_is)
    (case c33 => k_is)
    (case k33 => k_is)
    (case a34 => k_is)
    (case l34 => k_is)
    (case c34 => k_is)
    (case k34 => k_is)
    (case a35 => k_is)
    (case l35 => k_is)
    (case c35 => k_is)
    (case k35 => k_is)
    (case a36 => k_is)
    (case l36 => k_is)
    (case c36 => k_is)
    (case k36 => k_is)
    (case aC => k_is)
    (case pg => k_is)
    (case hd => k_is)
    (case po => k_is)
    (case sa => k_is)
    (case mk => k_is)
    (case kc => k_is)
    (case nL => k_is)
    (case nG => k_is)
    (case rd => k_is)
    (case ga => k_is)
    (case vM => k_is)
    (case vN => k_is)
    (case vG => k_is)
    (case vA => k_is)
    (case vT => k_is)
    (case lT => k_is)
    (case qa => k_is)
    (case qn => k_is)
    (case qt => k_is)
    (case qm => k_is)
    (case oF => k_is)
    (case vJ => k_is)
    (case vK => k_is)
    (case qe => k_is)
    (case oR => k_is)
    (case o1 => k_is)
    (case o2 => k_is)
    (case oS => k_is)
    (case a37 => k_is)
    (case l37 => k_is)
    (case c37 => k_is)
    (case i37 => k_is)
    (case lD => k_is)
    (case lE => k_is)
    (case k37 => k_is)
    (case a38 => k_is)
    (case l38 => k_is)
    (case c38 => k_is)
    (case i38 => k_is)
    (case a39 => k_is)
    (case l39 => k_is)
    (case c39 => k_is)
    (case i39 => k_is)
    (case n39 => k_is)
    (case a40 => k_is)
    (case l40 => k_is)
    (case c40 => k_is)
    (case i40 => k_is)
    (case n40 => k_is)
    (case a41 => k_is)
    (case l41 => k_is)
    (case c41 => k_is)
    (case i41 => k_is)
    (case a42 => k_is)
    (case l42 => k_is)
    (case c42 => k_is)
    (case i42 => k_is)
    (case a43 => k_is)
    (case l43 => k_is)
    (case c43 => k_is)
    (case i43 => k_is)
    (case a44 => k_is)
    (case l44 => k_is)
    (case c44 => k_is)
    (case i44 => k_is)
    (case a45 => k_is)
    (case l45 => k_is)
    (case c45 => k_is)
    (case i45 => k_is)
    (case a46 => k_is)
    (case l46 => k_is)
    (case c46 => k_is)
    (case i46 => k_is)
    (case k46 => k_is)
    (case a47 => k_is)
    (case l47 => k_is)
    (case c47 => k_is)
    (case i47 => k_is)
    (case k47 => k_is)
    (case a48 => k_is)
    (case l48 => k_is)
    (case c48 => k_is)
    (case i48 => k_is)
    (case k48 => k_is)
    (case a49 => k_is)
    (case l49 => k_is)
    (case c49 => k_is)
    (case i49 => k_is)
    (case k49 => k_is)
    (case a50 => k_is)
    (case l50 => k_is)
    (case c50 => k_is)
    (case i50 => k_is)
    (case k50 => k_is)
    (case a51 => k_is)
    (case l51 => k_is)
    (case c51 => k_is)
    (case i51 => k_is)
    (case k51 => k_is)
    (case a52 => k_is)
    (case l52 => k_is)
    (case c52 => k_is)
    (case i52 => k_is)
    (case k52 => k_is)
    (case a53 => k_is)
    (case r53' => k_is)
    (case l53 => k_is)
    (case c53 => k_is)
    (case g53 => k_is)
    (case t53 => k_is)
    (case a54 => k_is)
    (case r54' => k_is)
    (case l54 => k_is)
    (case c54 => k_is)
    (case n54 => k_is)
