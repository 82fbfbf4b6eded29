import PyProof.Rows.All
import Wide.All
import OpenK.AllK
import Wide.FinOn
import HandS.ForMost
import HandS.Codes
import HandS.Walk
import HandS.DictComp
import HandS.ListItems
import HandS.Property
import HandS.Wide
import HandS.Style
import HandS.More
import HandS.Defaults
import HandS.MakeKwOnly
import HandS.IsInst
import HandS.SetBool
import HandS.Strs
import HandS.Zip
import KE.DatumOrd
import KE.KDictZip
import HandS.SetFor
import HandS.TryOnly
import HandS.OwnEq
import HandS.DeepEq
import HandS.RaiseMore
import HandS.ExcInit
import HandS.ExcIs
import HandS.WordsExc
import HandS.ExcOwn
import HandS.Defaults
import HandS.MakeKw
import HandS.MakeKwOnly
import KE.KExcPX
import PySem.Challenge.RW_dueclocks_k01_errors_keep_their_value
set_option Elab.async false
set_option linter.all false
set_option maxRecDepth 100000
set_option maxHeartbeats 4000000
namespace DK
open PySem PySem.Spec PyProof.Rows L2

/-- a def that is only run where no repr is under way -/
structure FnG (P : Program) (w : World) (K : PySem.W.Frag) (mg : Str → Option Value) (b0 : Heap) (k : Nat) (f : Addr)
    (fd : FuncData) (ps : List Str) (sp : Sp) : Prop where
  size : ∀ vs H Q E, sp vs H Q E → vs.length = ps.length
  go : ∀ (B : Around) (stk : List Env) (s : Shared) (H : Hp) (ar : Args) (us : List Value) (vs : List V) (Q : VK) (E : XK),
    B.guards = some [] → Room k B → Env0 P w K mg b0 B stk s H → BindsTo s fd ar (ps.zip us) → Vals vs us → sp vs H Q E →
      codeAny (model P w) B (.call (.ref f) ar) (CR CX0 stk P w H s Q E) s

section
variable {P : Program} {w : World} {K : PySem.W.Frag} {mg : Str → Option Value} {b0 : Heap}

theorem okG {x qual : Str} {st : Stmt} {f : Addr} {fd : FuncData} {N ps : List Str} {k : Nat} {sp : Sp}
    (F : Fun K x qual st f fd) (S : FnScope N ps (defScope st)) (size : ∀ vs H Q E, sp vs H Q E → vs.length = ps.length)
    (body : ∀ (cdv : Value) (B : Around) (stk : List Env) (s : Shared) (H : Hp) (vs : List V) (Q : VK) (E : XK),
      B.guards = some [] → Room k (B.deeper (envOfC qual (defScope st) s.heap.objs.size f cdv)) → sp vs H Q E →
      ∃ t, PSs (cxOf CX0 P w K mg b0 N qual (defScope st) f cdv B stk s H E).nox (defBody st) t ∧
        t { nx := fun _ J => Q .non J, rt := Q } (start N vs) H) : FnG P w K mg b0 (k + 1) f fd ps sp := by
  obtain ⟨oc, od, kV, dc, pm, an, cv, ct, osl, rfl, hf, hcode⟩ := F.ex
  refine ⟨size, fun B stk s H ar us vs Q E hgd hr env hbi hv hs => ?_⟩
  have hlen := size _ _ _ _ hs
  have inK : K.In s.heap := env.mod.kin.keeps fun c u g => (env.bs c u g).1
  have noL : s.heap.NoLimit := env.mod.nolimit.keeps fun c u g => (env.bs c u g).1
  have kinds : ∀ z ∈ ps.zip us, (defScope st).names.lookup z.1 = some .local ∨
      ((defScope st).names.lookup z.1 = some .cell ∧
        ((cellsFrom (s.heap.objs.size + 1) (defScope st).names []).lookup z.1).isSome = true) := by
    rintro ⟨n, v⟩ hz
    rcases S.par n (List.of_mem_zip hz).1 with g | g
    · exact Or.inl g
    · exact Or.inr ⟨g, PySem.W.cellsFrom_some _ _ _ (Or.inl g)⟩
  refine codeAny_call_function hr.depth (inK _ _ hf) rfl S.co S.gen rfl (PySem.W.codeRec_of inK hcode) (hbi _ _ _ _ ?_)
  refine wpAny_newFunctionEnv_cells S.kind kinds fun en hen s2 inc => ?_
  subst hen
  refine ⟨noL.keeps inc.toInCall.keep, codeAny_func ?_⟩
  obtain ⟨t, ht0, hq⟩ := body cv B stk s H vs Q E hgd (hr.deeper _) hs
  have ht := ht0.nox
  have I : Inv (cxOf CX0 P w K mg b0 N qual (defScope st) f cv B stk s H E) [] (start N vs) H s2 := inv_start S hr.hd env hlen hv inc
  refine wpAny_mono (ht.run [] s2 (start N vs) H _ I hq) (fun fl s3 h3 => ?_) fun e s3 h3 => h3
  have close : ∀ {τ : L2.St} {J : Hp} {v : V} {u : Value}, Inv (cxOf CX0 P w K mg b0 N qual (defScope st) f cv B stk s H E) [] τ J s3 →
      RelV v u → Q v J → CE stk P w H s Q u s3 := fun {τ J v u} I3 rv q => ⟨v, J, I3.os, I3.bare, I3.base, I3.hok, rv, q⟩
  cases fl with
  | next =>
    obtain ⟨τ, J, I3, q⟩ := h3
    exact close (v := V.non) (u := Value.none) I3 rfl q
  | ret u =>
    obtain ⟨v, τ, J, I3, rv, q⟩ := h3
    exact close I3 rv q
  | cont =>
    obtain ⟨_, _, _, q⟩ := h3
    exact q.elim
  | brk =>
    obtain ⟨_, _, _, q⟩ := h3
    exact q.elim
end

section
variable {X : Cx}
/-- f(e, ..) of such a def -/
theorem pe_callG {k : Nat} {f : Addr} {fd : FuncData} {ps : List Str} {sp : Sp} {x : Str} {p pos : Pos} {e : Expr} {es : List Expr} {t : TA}
    (F : FnG X.prog X.w X.K X.mg X.base k f fd ps sp) (hgd : X.A.guards = some []) (hr : Room k X.A) (hg : Gl X x)
    (hm : X.mg x = some (.ref f)) (hk : PySem.W.keepIn X.K (.ref f) = true) (hb : Binds X.K fd ps []) (ha : PA X (e :: es) t)
    (hdb : (x == ("__debug__" : Str)) = false := by decide)
    (he : starEach (e :: es) X.env = (false, eval e X.env) :: starEach es X.env := by rfl)
    (hpl : (backTo pos (starEach es X.env)).any (·.1) = false := by rfl) :
    PE X (.Call (.Name x p) (e :: es) [] pos) (tCall sp [] E0 t) := by
  refine ⟨fun pins s σ H Q I h => ?_⟩
  refine wpAny_Call_Name_kw (ld_glob I hg hm ?_ hdb)
  refine PySem.W.callWith_K (h₀ := X.base) I.ok.mod.kin hk (thn (ha.run pos pins s σ H _ I h) fun us s1 hh => ?_) he hpl
  obtain ⟨vs, J, I1, r, q⟩ := hh
  refine ⟨I1.kIn, ?_⟩
  rw [List.append_nil] at q
  have hl : us.length = ps.length := r.length.symm.trans (F.size _ _ _ _ q)
  have bi := hb s1 us I1.kIn (by rw [List.append_nil]; exact hl)
  rw [List.append_nil] at bi
  refine wpAny_call (codeAny_mono (F.go X.A X.stack s1 J ⟨us, []⟩ us vs Q E0 hgd hr I1.env0 bi r q) fun res s2 hq => ?_)
  cases res with
  | error er => exact False.elim hq
  | ok fl =>
    cases fl with
    | ret u => exact I1.after hq
    | next => exact False.elim hq
    | brk => exact False.elim hq
    | cont => exact False.elim hq

/-- repr(x), x a list or a tuple of data -/
def rRepr (K : PySem.W.Frag) : List V → Hp → VK → Prop := fun xs H Q => ∃ (a : Addr) (d : PyData), xs = [.ref a] ∧ Dp K H (.ref a) d ∧
  d.showable = true ∧ d.hasDict = false ∧ d.depth ≤ 60 ∧ d.shown.length ≤ sizeLine ∧ Q (.str d.shown) H
theorem call_repr (hgd : X.A.guards = some []) (hu : X.A.units + 64 < cLine) : CallR X (.builtin "repr") (rRepr X.K) := by
  intro pins s σ H xs us Q I r h
  obtain ⟨a, d, rfl, hd, hs, hn, hdp, hz, q⟩ := h
  cases r with
  | cons r1 r2 =>
    cases r2
    rename_i u
    obtain rfl : u = Value.ref a := r1
    obtain ⟨as, rd⟩ := Dp.reads I d _ _ hd (show RelV (V.ref a) (Value.ref a) from rfl)
    refine repr_of_reads' rd hs (PyData.noDict_hsm hn) hgd (by omega) (fun _ _ e => e) (fun h' u tk hk => ?_) hz
    exact ⟨.str d.shown, H, I.kept hk, ⟨u, rfl⟩, q⟩
end

/-- what is hidden of the heap behind the top: the script alone, where it is not the module's own -/
structure Veil (P : Program) (w : World) (K : PySem.W.Frag) (h : Heap) (a : Addr) (ns : List Int) (H : Hp) : Prop where
  only : Only H
  at_ : SqL K H a (ns.map V.int)
  ok : HOk P w H h
  one : ∀ c, H c ≠ none → c = a
  out : H a ≠ none → K.lookup a = none

theorem veil_of {P : Program} {w : World} {K : PySem.W.Frag} {h : Heap} {a : Addr} {us : List Value} {ns : List Int} (inK : K.In h)
    (ha : h.get? a = some { cls := .type "list", data := .seq us.toArray }) (hi : IntsAre us ns) (hz : ns.length ≤ sizeLine) :
    ∃ H, Veil P w K h a ns H := by
  have rv := vals_ints hi
  cases hk : K.lookup a with
  | some o =>
    have e := (inK a o hk).symm.trans ha
    cases e
    refine ⟨fun _ => none, fun _ => Or.inl rfl, Or.inr ⟨_, us.toArray, _, hk, rfl, rfl, rfl, ?_, ?_⟩, fun c u z => ?_, fun c z => absurd rfl z, fun z => absurd rfl z⟩
    · rw [List.size_toArray, hi.length]
      exact hz
    · simpa using rv
    · exact nomatch (show (none : Option HO) = some u from z)
  | none =>
    let O : Obj := { cls := .type "list", data := .seq us.toArray }
    let H : Hp := fun c => if c = a then some (.frz O (.lst (ns.map V.int))) else none
    have hA : H a = some (.frz O (.lst (ns.map V.int))) := if_pos rfl
    have hN : ∀ c, c ≠ a → H c = none := fun c g => if_neg g
    refine ⟨H, fun c => ?_, Or.inl (Or.inr ⟨O, hA⟩), fun c u z => ?_, fun c z => ?_, fun _ => hk⟩
    · by_cases g : c = a
      · subst g
        exact Or.inr ⟨_, _, hA⟩
      · exact Or.inl (hN c g)
    · by_cases g : c = a
      · subst g
        have z2 := hA.symm.trans z
        cases z2
        refine ⟨ha, ?_, us, _, rv, ha⟩
        rw [List.length_map]
        exact hz
      · exact nomatch (hN c g).symm.trans z
    · by_cases g : c = a
      · exact g
      · exact absurd (hN c g) z

theorem lawG {P : Program} {w : World} {K : PySem.W.Frag} {mg mb : Str → Option Value} {k : Nat} {fa a : Addr} {fd : FuncData} {x : Str} {sp : Sp} {s : Shared} {us : List Value} {ns : List Int}
    (inK : K.In s.heap) (hmg : s.heap.Ns mainGlobals mg) (hmb : s.heap.Ns builtinsNs mb) (hbo : ∀ y : Str, y ≠ "__name__" → mb y = bootBuiltins y)
    (noL : s.heap.NoLimit) (gen : s.gens = #[]) (ha : s.heap.get? a = some { cls := .type "list", data := .seq us.toArray })
    (hi : IntsAre us ns) (hz : ns.length ≤ sizeLine) (hr : Room k callerA)
    (F : ∀ b0 : Heap, K.In b0 → b0.Ns mainGlobals mg → FnG P w K mg b0 k fa fd [x] sp)
    (bind : ∀ (t : Shared) (u : Value), BindsTo t fd ⟨[u], []⟩ [(x, u)])
    (hsp : ∀ H : Hp, Only H → SqL K H a (ns.map V.int) → sp [.ref a] H (fun v _ => v = .bl true) E0) :
    codeAny (model P w) callerA (.call (.ref fa) ⟨[.ref a], []⟩)
      (fun r t => r = .ok (.ret (.bool true)) ∧ OldK s.heap t.heap ∧ t.os = s.os ∧ AllBare t.gens) s := by
  obtain ⟨H, W⟩ := veil_of (P := P) (w := w) inK ha hi hz
  have through : ∀ {c : Addr} {o : Obj}, s.heap.get? c = some o → H c = none → (hidT s.heap H).get? c = some o := fun g n => hidT_get g n
  have dicts : ∀ {c : Addr} {o : Obj} {es : Array DictEntry} {ep : Nat}, s.heap.get? c = some o → o.data = .dict es ep → H c = none := by
    intro c o es ep g d
    by_cases n : H c = none
    · exact n
    · have := W.one c n
      subst this
      rw [ha] at g
      cases g
      exact nomatch d
  have names : ∀ {c : Addr} {m : Str → Option Value}, s.heap.Ns c m → (hidT s.heap H).Ns c m := fun {c m} ⟨o, es, ep, g, d, r⟩ => ⟨o, es, ep, through g (dicts g d), d, r⟩
  have inB : K.In (hidT s.heap H) := by
    intro c o g
    refine through (inK c o g) ?_
    by_cases n : H c = none
    · exact n
    · have e := W.one c n
      subst e
      rw [W.out n] at g
      exact nomatch g
  have md : Mod K mg (hidT s.heap H) := ⟨inB, names hmg, ⟨mb, names hmb, hbo⟩, noL.elim fun mc q => ⟨mc, names q.1, q.2⟩⟩
  have nil : ∀ c : Addr, c ∉ ([] : List Addr) := fun c q => nomatch q
  have env : Env0 P w K mg (hidT s.heap H) callerA [] s H :=
    ⟨rfl, md, fun c o g => of_hidT g, Nat.le_of_eq (hidT_size _ _), trivial, fun c q => absurd q (nil c), W.ok, .of_eq gen⟩
  refine codeAny_mono ((F _ inB (names hmg)).go callerA [] s H ⟨[.ref a], []⟩ [.ref a] [.ref a] _ _ rfl hr env (bind s (.ref a)) (.cons rfl .nil) (hsp H W.only W.at_)) fun r t q => ?_
  rcases r with er | fl
  · exact False.elim q
  · rcases fl with _ | _ | _ | u
    iterate 3 exact False.elim q
    · obtain ⟨v, H', os, bare, un, ok2, rv, rfl⟩ := q
      obtain rfl : u = Value.bool true := rv
      refine ⟨rfl, OldK.of_keep fun c o g => ?_, os, bare⟩
      by_cases n : H c = none
      · exact un.keep c o g n (fun z => absurd z (nil c)) (nil c)
      · rcases W.only c with z | ⟨O, xs, z⟩
        · exact absurd z n
        · have e1 := (W.ok c _ z).1
          have e2 := (ok2 c _ (un.frzs c O _ z)).1
          rw [g] at e1
          cases e1
          exact e2
/-- the end of a law row -/
theorem walkG {l : PySem.W.OpenLaw} {n k : Nat} {q : Program} {loose : List Str} {XP : (Str → Option Value) → Heap → Prop} {YP : World → Heap → Prop} {d : DefRec} {K : Params → PySem.W.Frag} {sp : PySem.W.Frag → Sp} {x : Str}
    (hn : l.most = some n) (hn2 : n ≤ sizeLine) (hdf : d.params.defaults = []) (hr : Room k callerA)
    (hY : ∀ (w : World) (h : Heap), YP w h → (K w.params).In h)
    (F : ∀ (w : World) (mg : Str → Option Value) (fa : Addr) (h : Heap), (K w.params).In h → h.Ns mainGlobals mg → mg d.name = some (.ref fa) →
      ∃ fd : FuncData, (∀ (t : Shared) (u : Value), BindsTo t fd ⟨[u], []⟩ [(x, u)]) ∧
        ∀ b0 : Heap, (K w.params).In b0 → b0.Ns mainGlobals mg → FnG l.prog w (K w.params) mg b0 k fa fd [x] (sp (K w.params)))
    (hsp : ∀ (J : PySem.W.Frag) (H : Hp) (a : Addr) (ns : List Int), ns.length ≤ n → Only H → SqL J H a (ns.map V.int) → sp J [.ref a] H (fun v _ => v = .bl true) E0) :
    PySem.W.WalkO q loose XP YP l.row.toRowW d [] (fun f vs => PySem.call f vs) := by
  refine Att.attach_call hn hdf fun w s₀ s₁ mg mb fa o pm cd doc a vs ns G Y ho hd hcd hmg hobj hints hlen hg => ?_
  have inK := hY w _ Y
  obtain ⟨fd, bi, hF⟩ := F w mg fa _ inK G.T.g hmg
  exact lawG inK G.T.g G.T.b G.T.builtins G.T.nolimit hg hobj hints (Nat.le_trans hlen hn2) hr hF bi fun H hO hS => hsp _ H a ns hlen hO hS
def top (i : Nat) : Stmt := PySem.Challenge.pw_dueclocks_k01_errors_keep_their_value.main.body.getD i (.Pass ⟨0, 0, 0, 0⟩)
abbrev sWell : Stmt := top 16
abbrev sTake : Stmt := top 17
abbrev sNumber : Stmt := top 18
abbrev sFits : Stmt := top 22
abbrev sLaw : Stmt := top 23
abbrev sErr : Stmt := inClass (top 1) 0
abbrev sRaise : Stmt := top 19
abbrev sRaiseP : Stmt := top 20
abbrev sCaught : Stmt := top 21
/-! ### the well -/
def Fr (p : Addr) (H H' : Hp) : Prop := ∀ b o, H b = some o → b ≠ p → H' b = some o
theorem Fr.refl (p : Addr) (H : Hp) : Fr p H H := fun _ _ h _ => h
theorem Fr.trans {p : Addr} {H H1 H2 : Hp} (a : Fr p H H1) (b : Fr p H1 H2) : Fr p H H2 := fun c o h g => b c o (a c o h g) g
theorem Fr.of {p : Addr} {H H' : Hp} (a : Same H H') : Fr p H H' := fun c o h _ => a c o h
theorem Fr.at_ {p : Addr} {o : HO} {H : Hp} : Fr p H (upd H p o) := fun b u h g => by
  rw [upd_ne g]
  exact h
theorem Fr.new {p q : Addr} {o : HO} {H : Hp} (h : H q = none) : Fr p H (upd H q o) := fun b u e _ => by
  rw [upd_ne (ne_of_none e h)]
  exact e
theorem Fr.seq {K : PySem.W.Frag} {p a : Addr} {H H' : Hp} {xs : List V} (f : Fr p H H') (g : a ≠ p) (h : SqL K H a xs) : SqL K H' a xs := by
  rcases h with (h | ⟨o, h⟩) | h
  · exact .inl (.inl (f _ _ h g))
  · exact .inl (.inr ⟨o, f _ _ h g⟩)
  · exact .inr h
theorem same_new {H : Hp} {q : Addr} {o : HO} (h : H q = none) : Same H (upd H q o) := fun b u e => by
  rw [upd_ne (ne_of_none e h)]
  exact e
/-- a well at p, from which n or fewer draws were mixed -/
def Well (H : Hp) (p : Addr) (n : Nat) : Prop := ∃ a b c : Int, H p = some (.lst [.int a, .int b, .int c]) ∧ 0 ≤ b ∧ b < 2 ^ 62 ∧ 0 ≤ c ∧ c ≤ n
theorem Well.mono {H : Hp} {p : Addr} {n m : Nat} (h : Well H p n) (g : n ≤ m) : Well H p m := by
  obtain ⟨a, b, c, h1, h2, h3, h4, h5⟩ := h
  exact ⟨a, b, c, h1, h2, h3, h4, by omega⟩
theorem Well.same {H H' : Hp} {p : Addr} {n : Nat} (h : Well H p n) (g : Same H H') : Well H' p n := by
  obtain ⟨a, b, c, h1, h2⟩ := h
  exact ⟨a, b, c, g _ _ h1, h2⟩
theorem Well.new {H : Hp} {p q : Addr} {n : Nat} {o : HO} (h : Well H p n) (g : H q = none) : Well (upd H q o) p n := h.same (same_new g)
theorem Well.upd_ne {H : Hp} {p q : Addr} {n : Nat} {o : HO} (h : Well H p n) (g : p ≠ q) : Well (upd H q o) p n := by
  obtain ⟨a, b, c, h1, h2⟩ := h
  exact ⟨a, b, c, by rw [L2.upd_ne g]; exact h1, h2⟩
theorem Well.ne {H : Hp} {p q : Addr} {n : Nat} (h : Well H p n) (g : H q = none) : p ≠ q := by
  obtain ⟨a, b, c, h1, h2⟩ := h
  exact ne_of_none h1 g
def spTake : Sp := fun vs H Q _ => ∃ (p : Addr) (n : Nat) (m : Int), vs = [.ref p, .int m] ∧ Well H p n ∧ n ≤ 10 ^ 9 ∧ 0 < m ∧ m < 2 ^ 200 ∧
  ∀ (r : Int) (H' : Hp), 0 ≤ r → r < m → Fr p H H' → Well H' p (n + 1) → Q (.int r) H'
theorem spTake_ok {p : Addr} {n : Nat} {m : Int} {H : Hp} {Q : VK} {E : XK} (h : Well H p n) (hn : n ≤ 10 ^ 9) (h0 : 0 < m) (h1 : m < 2 ^ 200)
    (q : ∀ (r : Int) (H' : Hp), 0 ≤ r → r < m → Fr p H H' → Well H' p (n + 1) → Q (.int r) H') : spTake [.ref p, .int m] H Q E := ⟨p, n, m, rfl, h, hn, h0, h1, q⟩
/-- the built-in names are still the built-in ones -/
structure Blt (mg : Str → Option Value) : Prop where
  int : mg "int" = none
  len : mg "len" = none
  abs : mg "abs" = none
  max : mg "max" = none
  min : mg "min" = none
  range : mg "range" = none
  repr : mg "repr" = none
  list : mg "list" = none
theorem set0 (a b c v : V) : ([a, b, c] : List V).set 0 v = [v, b, c] := rfl
theorem set2 (a b c v : V) : ([a, b, c] : List V).set 2 v = [a, b, v] := rfl
section
variable {P : Program} {w : World} {K : PySem.W.Frag} {mg : Str → Option Value} {base : Heap}
theorem scTake : FnScope ["well", "many", "taken", "mixed"] ["well", "many"] (defScope sTake) := ⟨rfl, rfl, rfl, by decide +kernel, rfl, by decide +kernel, by decide +kernel⟩
theorem ok_take {f : Addr} {fd : FuncData} (F : Fun K "_law_take" "_law_take" sTake f fd) (T : Blt mg) : FnOk P w K mg base CX0 1 f fd ["well", "many"] spTake := by
  refine F.ok scTake (fun vs H Q E h => ?_) (fun cdv A outer s H vs Q E hr h => ?_)
  · obtain ⟨p, n, m, rfl, _⟩ := h
    rfl
  · obtain ⟨p, n, m, rfl, ⟨a, b, c, hp, b0, b1, c0, c1⟩, hn, m0, m1, k⟩ := h
    refine ⟨_, pss_cons (ps_if (pt_cmpR op_gt (pe_ix ix_list (pv 0) pe_int (fun _ _ => rfl)) pe_int (nomark _))
      (pss_cons (ps_set (i := 2) scTake.nd rfl (.inl rfl) (pe_op op_mod (pe_callTy call_int1 (by rfl) T.int (by decide +kernel) (pa_cons (pe_ix ix_list (pv 0) pe_int (fun _ _ => rfl)) pa_nil)) (pv 1)))
      (pss_cons (ps_asg (pe_op op_fdivW (pe_ix ix_list (pv 0) pe_int (fun _ _ => rfl)) (pv 1)) (pg_sub (pv 0) pe_int set_list))
      (pss_one (ps_ret (pv 2))))) pss_nil)
      (pss_cons (ps_asg (pe_op op_add (pe_ix ix_list (pv 0) pe_int (fun _ _ => rfl)) pe_int) (pg_sub (pv 0) pe_int set_list))
      (pss_cons (ps_set (i := 3) scTake.nd rfl (.inl rfl) (pe_op op_add (pe_op op_pow (pe_op op_add (pe_ix ix_list (pv 0) pe_int (fun _ _ => rfl)) (pe_op op_mul pe_int (pe_ix ix_list (pv 0) pe_int (fun _ _ => rfl)))) pe_int) (pe_op op_mul pe_int (pe_ix ix_list (pv 0) pe_int (fun _ _ => rfl)))))
      (pss_cons (ps_set (i := 3) scTake.nd rfl (.inl rfl) (pe_op op_add (pe_op op_mod (pe_callTy call_int1 (by rfl) T.int (by decide +kernel) (pa_cons (pv 3) pa_nil)) pe_int) (pe_op op_mul pe_int (pe_ix ix_list (pv 0) pe_int (fun _ _ => rfl)))))
      (pss_cons (ps_set (i := 3) scTake.nd rfl (.inl rfl) (pe_op op_mod (pe_callTy call_int1 (by rfl) T.int (by decide +kernel) (pa_cons (pe_op op_pow (pv 3) pe_int) pa_nil)) pe_int))
      (pss_one (ps_ret (pe_op op_mod (pe_callTy call_int1 (by rfl) T.int (by decide +kernel) (pa_cons (pe_op op_fdiv (pv 3) pe_int) pa_nil)) (pv 1)))))))), ?_⟩
    refine ⟨_, rfl, p, _, 0, _, rfl, rfl, SqL.of hp, atI_nat (j := 0) rfl, _, _, rfl, rfl, _, rfl, ite2 (fun hw => ?_) (fun hw => ?_)⟩
    · refine ⟨_, rfl, p, _, 0, _, rfl, rfl, SqL.of hp, atI_nat (j := 0) rfl, .inl ⟨_, rfl, _, rfl, a, m, rfl, rfl, m0, ?_⟩⟩
      refine ⟨_, rfl, p, _, 0, _, rfl, rfl, SqL.of hp, atI_nat (j := 0) rfl, _, rfl, a, m, rfl, rfl, wide_div (b := 200) m0 (by omega) (by decide) (by decide), ?_⟩
      refine ⟨_, rfl, p, _, 0, 0, rfl, rfl, hp, rfl, ?_⟩
      refine ⟨_, rfl, k _ _ (Int.emod_nonneg _ (by omega)) (Int.emod_lt_of_pos _ m0) Fr.at_ ⟨a / m, b, c, upd_same, b0, b1, c0, by omega⟩⟩
    · refine ⟨_, rfl, p, _, 2, _, rfl, rfl, SqL.of hp, atI_nat (j := 2) rfl, _, _, rfl, rfl, ?_⟩
      refine ⟨_, rfl, p, _, 2, 2, rfl, rfl, hp, rfl, ?_⟩
      rw [set2]
      generalize hH : upd H p (.lst [.int a, .int b, .int (c + 1)]) = H1
      have h1 : H1 p = some (.lst [.int a, .int b, .int (c + 1)]) := by rw [← hH]; exact upd_same
      have e1 : (0 : Int) ≤ 6700417 * (c + 1) := by omega
      refine ⟨_, rfl, p, _, 1, _, rfl, rfl, SqL.of h1, atI_nat (j := 1) rfl, _, rfl, p, _, 2, _, rfl, rfl, SqL.of h1, atI_nat (j := 2) rfl, _, _, rfl, rfl, .inl ⟨by decide, by decide⟩, _, _, rfl, rfl, _, _, rfl, rfl, ⟨by decide, by decide, by omega⟩,
        _, rfl, p, _, 2, _, rfl, rfl, SqL.of h1, atI_nat (j := 2) rfl, _, _, rfl, rfl, .inl ⟨by decide, by decide⟩, _, _, rfl, rfl, ?_⟩
      refine ⟨_, rfl, .inl ⟨_, rfl, _, _, rfl, rfl, (by show (0 : Int) < 2305843009213693951; decide), _, rfl, p, _, 2, _, rfl, rfl, SqL.of h1, atI_nat (j := 2) rfl, _, _, rfl, rfl, .inl ⟨by decide, by decide⟩, _, _, rfl, rfl, ?_⟩⟩
      generalize hx : ((b + 6700417 * (c + 1)) ^ (3 : Int).toNat + 97 * (c + 1)) % 2305843009213693951 = x
      have x0 : 0 ≤ x := by rw [← hx]; exact Int.emod_nonneg _ (by decide)
      have x1 : x < 2305843009213693951 := by rw [← hx]; exact Int.emod_lt_of_pos _ (by decide)
      refine ⟨_, rfl, _, _, rfl, rfl, ⟨by decide, by decide, by omega⟩, .inl ⟨_, rfl, _, _, rfl, rfl, (by show (0 : Int) < 618970019642690137449562111; decide), ?_⟩⟩
      refine ⟨_, rfl, _, _, rfl, rfl, ⟨by decide, by decide⟩, .inl ⟨_, rfl, _, rfl, _, _, rfl, rfl, m0, ?_⟩⟩
      refine k _ _ (Int.emod_nonneg _ (by omega)) (Int.emod_lt_of_pos _ m0) ?_ ⟨a, b, c + 1, h1, b0, b1, by omega, by omega⟩
      rw [← hH]
      exact Fr.at_
end

/-! ### the draws of a law -/
theorem atI_ints {xs : List Int} {i : Int} (h0 : 0 ≤ i) (h1 : i < xs.length) : ∃ v, v ∈ xs ∧ xs[i.toNat]? = some v ∧ atI (xs.map V.int) i = some (.int v) := by
  obtain ⟨j, rfl⟩ : ∃ j : Nat, i = (j : Int) := ⟨i.toNat, by omega⟩
  have hj : j < xs.length := by omega
  refine ⟨xs[j], List.getElem_mem hj, by simp [hj], atI_nat (j := j) ?_⟩
  rw [List.getElem?_map, List.getElem?_eq_getElem hj]
  rfl
def spWell (K : PySem.W.Frag) : Sp := fun vs H Q _ => ∃ (a : Addr) (ns : List Int) (i : Int), vs = [.ref a, .int i] ∧ SqL K H a (ns.map V.int) ∧ ns.length ≤ 63 ∧ 0 ≤ i ∧ i ≤ 63 ∧
  ∀ (p : Addr) (H' : Hp), H p = none → Same H H' → Well H' p 0 → Q (.ref p) H'
def spNumber : Sp := fun vs H Q _ => ∃ (p : Addr) (n : Nat), vs = [.ref p] ∧ Well H p n ∧ n ≤ 10 ^ 8 ∧
  ∀ (r : Int) (H' : Hp), -10 ^ 30 < r → r < 10 ^ 30 → Fr p H H' → Well H' p (n + 4) → Q (.int r) H'
/-- a list of speeds that a calendar may have -/
structure Paces (xs : List Int) : Prop where
  lo : ∀ v ∈ xs, 0 ≤ v ∧ v ≤ 3
  pos : ∃ v ∈ xs, v ≠ 0
  len0 : 0 < xs.length
  len1 : xs.length ≤ 12
def spPaces : Sp := fun vs H Q _ => ∃ (p : Addr) (n : Nat) (z : Int), vs = [.ref p, .int z] ∧ Well H p n ∧ n ≤ 10 ^ 8 ∧ 1 ≤ z ∧ z ≤ 12 ∧
  ∀ (q : Addr) (xs : List Int) (H' : Hp), Paces xs → (xs.length : Int) = z → H q = none → q ≠ p → H' q = some (.lst (xs.map V.int)) → Fr p H H' → Well H' p (n + 20) → Q (.ref q) H'
section
variable {P : Program} {w : World} {K : PySem.W.Frag} {mg : Str → Option Value} {base : Heap}
theorem scWell : FnScope ["script", "place", "cell", "seed"] ["script", "place"] (defScope sWell) := ⟨rfl, rfl, rfl, by decide +kernel, rfl, by decide +kernel, by decide +kernel⟩
theorem ok_well {f : Addr} {fd : FuncData} (F : Fun K "_law_well" "_law_well" sWell f fd) (T : Blt mg) : FnOk P w K mg base CX0 1 f fd ["script", "place"] (spWell K) := by
  refine F.ok scWell (fun vs H Q E h => ?_) (fun cdv A outer s H vs Q E hr h => ?_)
  · obtain ⟨a, ns, i, rfl, _⟩ := h
    rfl
  · obtain ⟨a, ns, i, rfl, hS, hl, i0, i1, k⟩ := h
    refine ⟨_, pss_cons (ps_set (i := 2) scWell.nd rfl (.inl rfl) pe_int)
      (C8.pss_cut (ps_if (pt_cmpR op_lt (pv 1) (pe_callB call_len_seq (by rfl) T.len PySem.boot_len (pa_cons (pv 0) pa_nil)) (nomark _))
        (pss_one (ps_set (i := 2) scWell.nd rfl (.inl rfl) (pe_ix ix_list (pv 0) (pv 1) (fun _ _ => rfl)))) pss_nil)
      (pss_cons (ps_set (i := 3) scWell.nd rfl (.inl rfl) (pe_op op_mod (pe_callTy call_int1 (by rfl) T.int (by decide +kernel) (pa_cons (pe_op op_add (pe_op op_mul (pe_callB call_abs (by rfl) T.abs (by decide +kernel) (pa_cons (pv 2) pa_nil)) pe_int) (pe_callTy call_int1 (by rfl) T.int (by decide +kernel) (pa_cons (pe_cmpR op_lt (pv 2) pe_int (nomark _)) pa_nil))) pa_nil)) pe_int))
      (pss_one (ps_ret (pe_lst (pa_cons (pe_op op_mul (pv 2) (pe_callTy call_int1 (by rfl) T.int (by decide +kernel) (pa_cons (pe_cmpR op_ge (pv 2) (pe_op op_pow pe_int pe_int) (nomark _)) pa_nil))) (pa_cons (pe_op op_add (pv 3) (pe_op op_mul pe_int (pv 1))) (pa_cons pe_int pa_nil)))))))), ?_⟩
    refine ⟨fun σ H1 => H1 = H ∧ ∃ z : Int, σ = [some (.ref a), some (.int i), some (.int z), none], ?_, ?_⟩
    · refine ⟨_, rfl, _, rfl, a, _, rfl, .inl hS, _, _, rfl, rfl, _, rfl, ite2 (fun hc => ?_) (fun hc => ?_)⟩
      · have hi : i < ns.length := by
          have := of_decide_eq_true hc
          rw [List.length_map] at this
          exact this
        obtain ⟨v, hv, hv2, e⟩ := atI_ints i0 hi
        exact ⟨_, rfl, _, rfl, a, _, i, _, rfl, rfl, hS, e, rfl, v, rfl⟩
      · exact ⟨rfl, 0, rfl⟩
    · rintro σ H1 ⟨rfl, z, rfl⟩
      refine ⟨_, rfl, _, rfl, _, _, rfl, rfl, .inr ⟨by decide, by decide⟩, _, rfl, _, _, rfl, rfl, .inr ⟨_, rfl, _, _, rfl, rfl, .inl ⟨_, rfl, _, _, rfl, rfl, (by show (0 : Int) < 2305843009213693951; decide), ?_⟩⟩⟩
      generalize hx : ((if z < 0 then -z else z) * 2 + (if decide (z < 0) = true then (1 : Int) else 0)) % 2305843009213693951 = x
      have x0 : 0 ≤ x := by rw [← hx]; exact Int.emod_nonneg _ (by decide)
      have x1 : x < 2305843009213693951 := by rw [← hx]; exact Int.emod_lt_of_pos _ (by decide)
      refine ⟨_, rfl, _, rfl, _, _, rfl, rfl, ⟨by decide, by decide, by decide⟩, _, _, rfl, rfl, .inr ⟨_, rfl, _, _, rfl, rfl, .inr ?_, ?_⟩⟩
      · split <;> exact ⟨by decide, by decide⟩
      refine ⟨_, rfl, _, rfl, _, _, rfl, rfl, .inl ⟨by decide, by decide⟩, _, _, rfl, rfl, (by show 3 ≤ sizeLine; decide), fun p hp => ?_⟩
      exact k p _ hp (same_new hp) ⟨_, _, _, upd_same, by omega, by omega, by decide, by decide⟩
theorem scNumber : FnScope ["well", "way", "found"] ["well"] (defScope sNumber) := ⟨rfl, rfl, rfl, by decide +kernel, rfl, by decide +kernel, by decide +kernel⟩
/-- what a law calls to draw -/
structure Tk (P : Program) (w : World) (K : PySem.W.Frag) (mg : Str → Option Value) (base : Heap) (fT : Addr) (fdT : FuncData) : Prop where
  ok : FnOk P w K mg base CX0 1 fT fdT ["well", "many"] spTake
  at_ : mg "_law_take" = some (.ref fT)
  kp : PySem.W.keepIn K (.ref fT) = true
  bi : Binds K fdT ["well", "many"] []
theorem ok_number {f fT : Addr} {fd fdT : FuncData} (F : Fun K "_law_number" "_law_number" sNumber f fd) (T : Blt mg) (L : Tk P w K mg base fT fdT) : FnOk P w K mg base CX0 2 f fd ["well"] spNumber := by
  refine F.ok scNumber (fun vs H Q E h => ?_) (fun cdv A outer s H vs Q E hr h => ?_)
  · obtain ⟨p, n, rfl, _⟩ := h
    rfl
  · obtain ⟨p, n, rfl, hW, hn, k⟩ := h
    refine ⟨_, pss_cons (ps_set (i := 1) scNumber.nd rfl (.inl rfl) (pe_call L.ok hr (by rfl) L.at_ L.kp L.bi .nil pass0 (pa_cons (pv 0) (pa_cons pe_int pa_nil))))
      (pss_cons (ps_set (i := 2) scNumber.nd rfl (.inl rfl) (pe_call L.ok hr (by rfl) L.at_ L.kp L.bi .nil pass0 (pa_cons (pv 0) (pa_cons (pe_ix ix_list (pe_lst (pa_cons pe_int (pa_cons pe_int (pa_cons pe_int (pa_cons (pe_op op_pow pe_int pe_int) pa_nil))))) (pv 1) (fun _ _ => rfl)) pa_nil))))
      (C8.pss_cut (ps_if (pt_cmpR op_eq (pv 1) pe_int (nomark _))
        (pss_one (ps_set (i := 2) scNumber.nd rfl (.inl rfl) (pe_op op_add (pe_op op_mul (pv 2) (pe_op op_pow pe_int pe_int)) (pe_call L.ok hr (by rfl) L.at_ L.kp L.bi .nil pass0 (pa_cons (pv 0) (pa_cons (pe_op op_pow pe_int pe_int) pa_nil)))))) pss_nil)
      (pss_one (ps_ret (pe_op op_mul (pv 2) (pe_op op_sub pe_int (pe_op op_mul pe_int (pe_call L.ok hr (by rfl) L.at_ L.kp L.bi .nil pass0 (pa_cons (pv 0) (pa_cons pe_int pa_nil)))))))))), ?_⟩
    refine ⟨_, rfl, ⟨_, _, _, rfl, hW, (by omega), (by decide), (by decide), fun r H1 r0 r1 f1 w1 => ?_⟩⟩
    refine ⟨_, rfl, _, _, rfl, rfl, ⟨by decide, by decide, by decide⟩, (by show 4 ≤ sizeLine; decide), fun l hl => ⟨_, rfl, ?_⟩⟩
    have w1' := w1.new (o := .lst [.int 13, .int 60, .int 1000, .int (10 ^ (15 : Int).toNat)]) hl
    obtain ⟨v, hv, hv2, he⟩ := atI_ints (xs := [13, 60, 1000, 10 ^ (15 : Int).toNat]) r0 r1
    have v0 : 0 < v ∧ v ≤ 10 ^ 15 := by
      simp only [List.mem_cons, List.not_mem_nil, or_false] at hv
      rcases hv with rfl | rfl | rfl | rfl <;> decide
    refine ⟨l, _, r, _, rfl, rfl, SqL.of upd_same, he, ⟨_, _, _, rfl, w1', (by omega), v0.1, (by omega), fun x H2 x0 x1 f2 w2 => ?_⟩⟩
    have f02 : Fr p H H2 := (f1.trans (Fr.new hl)).trans f2
    refine ⟨fun σ H3 => ∃ z : Int, σ = [some (.ref p), some (.int r), some (.int z)] ∧ 0 ≤ z ∧ z < 10 ^ 30 ∧ Fr p H H3 ∧ Well H3 p (n + 3), ?_, ?_⟩
    · refine ⟨_, rfl, rfl, _, rfl, ite2 (fun hc => ?_) (fun hc => ?_)⟩
      · refine ⟨_, rfl, _, _, rfl, rfl, ⟨by decide, by decide, by decide⟩, _, _, rfl, rfl, .inl ⟨by omega, by omega⟩, _, rfl, _, _, rfl, rfl, ⟨by decide, by decide, by decide⟩, ?_⟩
        refine ⟨_, _, _, rfl, w2, (by omega), (by decide), (by decide), fun y H3 y0 y1 f3 w3 => ⟨_, _, rfl, rfl, ?_⟩⟩
        refine ⟨_, rfl, ?_, ?_, f02.trans f3, w3⟩
        · have : (0 : Int) ≤ x * 10 ^ (15 : Int).toNat := Int.mul_nonneg x0 (by decide)
          omega
        · have e : (10 : Int) ^ (15 : Int).toNat = 10 ^ 15 := by decide
          rw [e] at y1 ⊢
          omega
      · exact ⟨x, rfl, x0, by omega, f02, w2.mono (by omega)⟩
    · rintro σ H3 ⟨z, rfl, z0, z1, f3, w3⟩
      refine ⟨_, rfl, _, rfl, ⟨_, _, _, rfl, w3, (by omega), (by decide), (by decide), fun y H4 y0 y1 f4 w4 => ?_⟩⟩
      refine ⟨_, _, rfl, rfl, .inl ⟨by decide, by decide⟩, _, _, rfl, rfl, _, _, rfl, rfl, .inr ⟨by omega, by omega⟩, ?_⟩
      have hy : y = 0 ∨ y = 1 := by omega
      refine k _ H4 ?_ ?_ (f3.trans f4) w4
      · rcases hy with rfl | rfl <;> omega
      · rcases hy with rfl | rfl <;> omega
end

/-! ### the changes that a law draws: tuples of a moment and a speed -/
def Tups (H : Hp) : List Addr → List (Int × Int) → Prop
  | [], [] => True
  | t :: ts, m :: ms => H t = some (.tup [.int m.1, .int m.2]) ∧ Tups H ts ms
  | _, _ => False
theorem Tups.len {H : Hp} : ∀ {ts : List Addr} {ms : List (Int × Int)}, Tups H ts ms → ts.length = ms.length
  | [], [], _ => rfl
  | _ :: _, _ :: _, h => by
    rw [List.length_cons, List.length_cons, Tups.len h.2]
theorem Tups.imp {H H' : Hp} : ∀ {ts : List Addr} {ms : List (Int × Int)}, (∀ t xs, H t = some (.tup xs) → H' t = some (.tup xs)) → Tups H ts ms → Tups H' ts ms
  | [], [], _, _ => trivial
  | _ :: _, _ :: _, f, h => ⟨f _ _ h.1, Tups.imp f h.2⟩
theorem Tups.same {H H' : Hp} {ts : List Addr} {ms : List (Int × Int)} (h : Tups H ts ms) (f : Same H H') : Tups H' ts ms := h.imp fun _ _ e => f _ _ e
theorem Tups.fr {H H' : Hp} {p : Addr} {n : Nat} {ts : List Addr} {ms : List (Int × Int)} (h : Tups H ts ms) (w : Well H p n) (f : Fr p H H') : Tups H' ts ms := h.imp fun t xs e => f _ _ e fun z => by
  obtain ⟨a, b, c, g, _⟩ := w
  rw [z, g] at e
  cases e
theorem Tups.put {H : Hp} {q : Addr} {ys : List V} {o : HO} {ts : List Addr} {ms : List (Int × Int)} (h : Tups H ts ms) (g : H q = some (.lst ys)) : Tups (upd H q o) ts ms := h.imp fun t xs e => by
  rw [upd_ne (fun z => by rw [z, g] at e; cases e)]
  exact e
theorem Tups.snoc {H : Hp} {t : Addr} {m : Int × Int} : ∀ {ts : List Addr} {ms : List (Int × Int)}, Tups H ts ms → H t = some (.tup [.int m.1, .int m.2]) → Tups H (ts ++ [t]) (ms ++ [m])
  | [], [], _, g => ⟨g, trivial⟩
  | _ :: _, _ :: _, h, g => ⟨h.1, Tups.snoc h.2 g⟩
theorem Tups.get {H : Hp} : ∀ {ts : List Addr} {ms : List (Int × Int)} {i : Nat} {t : Addr}, Tups H ts ms → ts[i]? = some t → ∃ m, ms[i]? = some m ∧ H t = some (.tup [.int m.1, .int m.2])
  | _ :: _, m :: _, 0, t, h, e => by
    obtain rfl := Option.some.inj e
    exact ⟨m, rfl, h.1⟩
  | _ :: _, _ :: _, i + 1, t, h, e => Tups.get (i := i) h.2 e
/-- what a calendar takes as changes -/
structure Marks (cap : Int) (ms : List (Int × Int)) : Prop where
  asc : ms.Pairwise fun a b => a.1 < b.1
  val : ∀ m ∈ ms, 0 ≤ m.2 ∧ m.2 ≤ 3
  big : ∀ m ∈ ms, -(2 * 10 ^ 30) < m.1 ∧ m.1 < 2 * 10 ^ 30
  len : (ms.length : Int) ≤ cap
def spMarks : Sp := fun vs H Q _ => ∃ (p : Addr) (n : Nat) (z cap : Int), vs = [.ref p, .int z, .int cap] ∧ Well H p n ∧ n ≤ 10 ^ 7 ∧ 1 ≤ z ∧ z ≤ 1000 ∧ 0 ≤ cap ∧ cap ≤ 3 ∧
  ∀ (q : Addr) (ts : List Addr) (ms : List (Int × Int)) (H' : Hp), Marks cap ms → H q = none → q ≠ p → H' q = some (.lst (ts.map V.ref)) → Tups H' ts ms → (∀ t ∈ ts, H t = none) → Fr p H H' → Well H' p (n + 20) → Q (.ref q) H'
/-- _law_number stands at fN -/
structure Nb (P : Program) (w : World) (K : PySem.W.Frag) (mg : Str → Option Value) (base : Heap) (fN : Addr) (fdN : FuncData) : Prop where
  ok : FnOk P w K mg base CX0 2 fN fdN ["well"] spNumber
  at_ : mg "_law_number" = some (.ref fN)
  kp : PySem.W.keepIn K (.ref fN) = true
  bi : Binds K fdN ["well"] []

/-! ### data whose repr is short -/
structure Rp (d : PyData) (n k : Nat) : Prop where
  lv : d.leavesShort 42 = true
  sh : d.showable = true
  nd : d.hasDict = false
  dp : d.depth ≤ k
  bk : d.bulk ≤ n
structure RpA (xs : List PyData) (n k : Nat) : Prop where
  lv : PyData.leavesShortAll 42 xs = true
  sh : PyData.showableAll xs = true
  nd : PyData.hasDictAll xs = false
  dp : PyData.depthAll xs ≤ k
  bk : PyData.bulkAll xs ≤ n
theorem Rp.int {i : Int} (h0 : -10 ^ 40 < i) (h1 : i < 10 ^ 40) : Rp (.int i) 0 0 := by
  have h : i.natAbs < 10 ^ 40 := by omega
  refine ⟨?_, ?_, rfl, Nat.le_refl _, Nat.le_refl _⟩
  · refine decide_eq_true ?_
    have e := int_text_length_le10 (k := 40) (by decide) h
    show (Str.ofString (toString i)).length ≤ 42
    rw [PySem.ofString_length]
    omega
  · refine decide_eq_true ?_
    by_cases z : i.natAbs = 0
    · rw [z]
      decide
    · have : i.natAbs < 2 ^ 1920 := Nat.lt_trans h (by decide)
      exact (Nat.log2_lt z).mpr this
theorem Rp.bool (b : Bool) : Rp (.bool b) 0 0 := ⟨rfl, rfl, rfl, Nat.le_refl _, Nat.le_refl _⟩
theorem Rp.none : Rp .none 0 0 := ⟨rfl, rfl, rfl, Nat.le_refl _, Nat.le_refl _⟩
theorem Rp.mono {d : PyData} {n k n' k' : Nat} (h : Rp d n k) (g1 : n ≤ n') (g2 : k ≤ k') : Rp d n' k' := ⟨h.lv, h.sh, h.nd, Nat.le_trans h.dp g2, Nat.le_trans h.bk g1⟩
theorem RpA.mono {d : List PyData} {n k n' k' : Nat} (h : RpA d n k) (g1 : n ≤ n') (g2 : k ≤ k') : RpA d n' k' := ⟨h.lv, h.sh, h.nd, Nat.le_trans h.dp g2, Nat.le_trans h.bk g1⟩
theorem Rp.list {xs : List PyData} {n k : Nat} (h : RpA xs n k) : Rp (.list xs) n (k + 1) :=
  ⟨by simp only [PyData.leavesShort, h.lv], by simp only [PyData.showable, h.sh], by simp only [PyData.hasDict, h.nd], by simp only [PyData.depth]; have := h.dp; omega, by simp only [PyData.bulk]; exact h.bk⟩
theorem Rp.tup {xs : List PyData} {n k : Nat} (h : RpA xs n k) : Rp (.tuple xs) n (k + 1) :=
  ⟨by simp only [PyData.leavesShort, h.lv], by simp only [PyData.showable, h.sh], by simp only [PyData.hasDict, h.nd], by simp only [PyData.depth]; have := h.dp; omega, by simp only [PyData.bulk]; exact h.bk⟩
theorem RpA.nil : RpA [] 0 0 := ⟨rfl, rfl, rfl, Nat.le_refl _, Nat.le_refl _⟩
theorem RpA.cons {d : PyData} {xs : List PyData} {n k m j : Nat} (h : Rp d n k) (g : RpA xs m j) : RpA (d :: xs) (n + 1 + m) (k + j) :=
  ⟨by simp only [PyData.leavesShortAll, h.lv, g.lv, Bool.and_self], by simp only [PyData.showableAll, h.sh, g.sh, Bool.and_self], by simp only [PyData.hasDictAll, h.nd, g.nd, Bool.or_self],
    by simp only [PyData.depthAll]; have := h.dp; have := g.dp; omega, by simp only [PyData.bulkAll]; have := h.bk; have := g.bk; omega⟩
theorem RpA.all {n k : Nat} : ∀ {xs : List PyData}, (∀ d ∈ xs, Rp d n k) → RpA xs (xs.length * (n + 1)) k
  | [], _ => RpA.nil.mono (Nat.zero_le _) (Nat.zero_le _)
  | d :: xs, h => by
    have h1 := h d List.mem_cons_self
    have h2 := RpA.all (xs := xs) fun e he => h e (List.mem_cons_of_mem _ he)
    refine ⟨by simp only [PyData.leavesShortAll, h1.lv, h2.lv, Bool.and_self], by simp only [PyData.showableAll, h1.sh, h2.sh, Bool.and_self], by simp only [PyData.hasDictAll, h1.nd, h2.nd, Bool.or_self], ?_, ?_⟩
    · simp only [PyData.depthAll]
      have := h1.dp
      have := h2.dp
      omega
    · simp only [PyData.bulkAll]
      have := h1.bk
      have := h2.bk
      rw [List.length_cons, Nat.add_mul]
      omega
theorem Rp.fits {d : PyData} {n k : Nat} (h : Rp d n k) (g : n ≤ 300000) : d.shown.length ≤ sizeLine := by
  have e := PyData.shown_le_bulk 42 (by decide) d h.lv
  have := h.bk
  rw [sizeLine_eq]
  omega
def rRep2 (K : PySem.W.Frag) : List V → Hp → VK → Prop := fun xs H Q => ∃ (a : Addr) (d : PyData) (n k : Nat), xs = [.ref a] ∧ Dp K H (.ref a) d ∧ Rp d n k ∧ k ≤ 60 ∧ n ≤ 300000 ∧ Q (.str d.shown) H
theorem call_rep2 {X : Cx} (hgd : X.A.guards = some []) (hu : X.A.units + 64 < cLine) : CallR X (.builtin "repr") (rRep2 X.K) := by
  intro pins s σ H xs us Q I r h
  obtain ⟨a, d, n, k, e, hd, hr, hk, hn, q⟩ := h
  exact call_repr hgd hu pins s σ H xs us Q I r ⟨a, d, e, hd, hr.sh, hr.nd, Nat.le_trans hr.dp hk, hr.fits hn, q⟩
/-! ### which data stand where -/
def dInts (xs : List Int) : PyData := .list (xs.map PyData.int)
def dMarks (ms : List (Int × Int)) : PyData := .list (ms.map fun m => PyData.tuple [.int m.1, .int m.2])
theorem dpAll_ints {K : PySem.W.Frag} {H : Hp} : ∀ xs : List Int, DpAll K H (xs.map V.int) (xs.map PyData.int)
  | [] => .nil
  | x :: xs => .cons (.int x) (dpAll_ints xs)
theorem dp_ints {K : PySem.W.Frag} {H : Hp} {a : Addr} {xs : List Int} (h : SqL K H a (xs.map V.int)) : Dp K H (.ref a) (dInts xs) := .lst h (dpAll_ints xs)
theorem dpAll_marks {K : PySem.W.Frag} {H : Hp} : ∀ {ts : List Addr} {ms : List (Int × Int)}, Tups H ts ms → DpAll K H (ts.map V.ref) (ms.map fun m => PyData.tuple [.int m.1, .int m.2])
  | [], [], _ => .nil
  | _ :: _, m :: _, h => .cons (.tup (SqT.of h.1) (.cons (.int m.1) (.cons (.int m.2) .nil))) (dpAll_marks h.2)
theorem dp_marks {K : PySem.W.Frag} {H : Hp} {a : Addr} {ts : List Addr} {ms : List (Int × Int)} (h : SqL K H a (ts.map V.ref)) (g : Tups H ts ms) : Dp K H (.ref a) (dMarks ms) := .lst h (dpAll_marks g)
theorem rp_ints {xs : List Int} (h : ∀ v ∈ xs, -10 ^ 40 < v ∧ v < 10 ^ 40) : Rp (dInts xs) xs.length 1 := by
  have := RpA.all (xs := xs.map PyData.int) (n := 0) (k := 0) fun d hd => by
    obtain ⟨v, hv, rfl⟩ := List.mem_map.mp hd
    exact Rp.int (h v hv).1 (h v hv).2
  refine (Rp.list this).mono ?_ (Nat.le_refl _)
  rw [List.length_map]
  omega
theorem rp_marks {ms : List (Int × Int)} (h : ∀ m ∈ ms, -10 ^ 40 < m.1 ∧ m.1 < 10 ^ 40 ∧ -10 ^ 40 < m.2 ∧ m.2 < 10 ^ 40) : Rp (dMarks ms) (ms.length * 3) 2 := by
  have := RpA.all (xs := ms.map fun m => PyData.tuple [.int m.1, .int m.2]) (n := 2) (k := 1) fun d hd => by
    obtain ⟨m, hm, rfl⟩ := List.mem_map.mp hd
    have g := h m hm
    exact (Rp.tup (.cons (Rp.int g.1 g.2.1) (.cons (Rp.int g.2.2.1 g.2.2.2) .nil))).mono (by omega) (by omega)
  refine (Rp.list this).mono ?_ (Nat.le_refl _)
  rw [List.length_map]
  omega

structure At (P : Program) (w : World) (K : PySem.W.Frag) (mg : Str → Option Value) (base : Heap) (k : Nat) (x : Str) (ps : List Str) (sp : Sp) (f : Addr) (fd : FuncData) : Prop where
  ok : FnOk P w K mg base CX0 k f fd ps sp
  at_ : mg x = some (.ref f)
  kp : PySem.W.keepIn K (.ref f) = true
  bi : Binds K fd ps []

/-! ### the law's own loop -/
def Scr (K : PySem.W.Frag) (H : Hp) (a : Addr) (xs : List V) : Prop := (∃ o, H a = some (.frz o (.lst xs))) ∨ ∀ J : Hp, SqL K J a xs
theorem Scr.seq {K : PySem.W.Frag} {H : Hp} {a : Addr} {xs : List V} (h : Scr K H a xs) : SqL K H a xs := by
  rcases h with ⟨o, h⟩ | h
  · exact .inl (.inr ⟨o, h⟩)
  · exact h H
theorem Scr.of {K : PySem.W.Frag} {H : Hp} {a : Addr} {xs : List V} (o : Only H) (h : SqL K H a xs) : Scr K H a xs := by
  rcases h with (h | ⟨u, h⟩) | h
  · rcases o a with z | ⟨u, ys, z⟩
    · rw [z] at h
      cases h
    · rw [z] at h
      cases h
  · exact .inl ⟨u, h⟩
  · exact .inr fun J => .inr h
theorem Scr.same {K : PySem.W.Frag} {H H' : Hp} {a : Addr} {xs : List V} (h : Scr K H a xs) (f : Same H H') : Scr K H' a xs := by
  rcases h with ⟨o, h⟩ | h
  · exact .inl ⟨o, f _ _ h⟩
  · exact .inr h
theorem Scr.fr {K : PySem.W.Frag} {H H' : Hp} {a p : Addr} {n : Nat} {xs : List V} (h : Scr K H a xs) (g : Well H p n) (f : Fr p H H') : Scr K H' a xs := by
  rcases h with ⟨o, h⟩ | h
  · refine .inl ⟨o, f _ _ h fun z => ?_⟩
    obtain ⟨x, y, u, e, _⟩ := g
    rw [z, e] at h
    cases h
  · exact .inr h
def spFits : Sp := fun vs H Q _ => ∃ (p : Addr) (n : Nat), vs = [.ref p] ∧ Well H p n ∧ n ≤ 10 ^ 6 ∧ ∀ H', Fr p H H' → Well H' p (n + 1000) → Q (.bl true) H'
def spLaw (K : PySem.W.Frag) : Sp := fun vs H Q _ => ∃ (a : Addr) (ns : List Int), vs = [.ref a] ∧ Scr K H a (ns.map V.int) ∧ ns.length ≤ 63 ∧ ∀ H', Q (.bl true) H'
/-- the turns of the inner loop -/
def turns : Nat := match defBody sLaw with
  | .For _ _ (_ :: .For _ (.Call _ (.Constant (.int n) _ _ :: _) _ _) _ _ _ :: _) _ _ :: _ => n.toNat
  | _ => 0
section
variable {P : Program} {w : World} {K : PySem.W.Frag} {mg : Str → Option Value} {base : Heap}
theorem scLaw : FnScope ["script", "place", "well", "turn"] ["script"] (defScope sLaw) := ⟨rfl, rfl, rfl, by decide +kernel, rfl, by decide +kernel, by decide +kernel⟩
theorem ok_law {f fW fF : Addr} {fd fdW fdF : FuncData} {k : Nat} (hk : 1 ≤ k) (F : Fun K "law" "law" sLaw f fd) (T : Blt mg) (W : At P w K mg base 1 "_law_well" ["script", "place"] (spWell K) fW fdW)
    (G : FnG P w K mg base k fF fdF ["well"] spFits) (gF : mg "_law_fits" = some (.ref fF)) (kF : PySem.W.keepIn K (.ref fF) = true) (bF : Binds K fdF ["well"] []) : FnG P w K mg base (k + 1) f fd ["script"] (spLaw K) := by
  refine okG F scLaw (fun vs H Q E h => ?_) (fun cdv A outer s H vs Q E hgd hr h => ?_)
  · obtain ⟨a, ns, rfl, _⟩ := h
    rfl
  · obtain ⟨a, ns, rfl, hS, hl, q⟩ := h
    have hr1 : Room 1 _ := hr.mono hk
    refine ⟨_, pss_cons (ps_for PassesOwn.never rfl (pi_range1 (by rfl) T.range (pa_cons (pe_callB (call_max2 rfl) (by rfl) T.max (by decide +kernel) (pa_cons pe_int (pa_cons (pe_callB (call_min2 rfl) (by rfl) T.min (by decide +kernel)
          (pa_cons pe_int (pa_cons (pe_callB call_len_seq (by rfl) T.len PySem.boot_len (pa_cons (pv 0) pa_nil)) pa_nil))) pa_nil))) pa_nil)) (pg_name (i := 1) scLaw.nd rfl (.inl rfl))
        (pss_cons (ps_set (i := 2) scLaw.nd rfl (.inl rfl) (pe_call W.ok hr1 (by rfl) W.at_ W.kp W.bi .nil pass0 (pa_cons (pv 0) (pa_cons (pv 1) pa_nil))))
        (pss_one (ps_for PassesOwn.never rfl (pi_range1 (by rfl) T.range (pa_cons pe_int pa_nil)) (pg_name (i := 3) scLaw.nd rfl (.inl rfl))
          (pss_one (ps_if (pt_not (pt_val (pe_callG G hgd hr (by rfl) gF kF bF (pa_cons (pv 2) pa_nil)))) (pss_one (ps_ret pe_bl)) pss_nil))))))
      (pss_one (ps_ret pe_bl)), ?_⟩
    refine ⟨_, rfl, a, _, rfl, .inl hS.seq, 63, _, rfl, 1, _, rfl, ?_⟩
    generalize hm : (if (if (((ns.map V.int).length : Nat) : Int) < 63 then (((ns.map V.int).length : Nat) : Int) else 63) > 1 then (if (((ns.map V.int).length : Nat) : Int) < 63 then (((ns.map V.int).length : Nat) : Int) else 63) else 1) = m
    have m1 : 1 ≤ m ∧ m ≤ 63 := by
      rw [← hm]
      split <;> split <;> omega
    refine ⟨m, rfl, by omega, by omega, for_range (lo := 0) (n := m.toNat) (fun i σ J => ∃ y1 y2 y3 : Option V, σ = [some (.ref a), y1, y2, y3] ∧ Scr K J a (ns.map V.int)) ⟨none, none, none, rfl, hS⟩ ?_ ?_⟩
    · rintro i σ J hi ⟨y1, y2, y3, rfl, hJ⟩
      refine ⟨_, rfl, _, rfl, ⟨a, ns, _, rfl, hJ.seq, hl, by omega, by omega, fun p J1 np s1 w1 => ?_⟩⟩
      refine ⟨turns, rfl, by decide +kernel, by decide +kernel, for_range (lo := 0) (n := turns) (fun j σ J2 => ∃ y3 : Option V, σ = [some (.ref a), some (.int (0 + i)), some (.ref p), y3] ∧ Scr K J2 a (ns.map V.int) ∧ Well J2 p (j * 1000)) ⟨_, rfl, hJ.same s1, w1.mono (by omega)⟩ ?_ ?_⟩
      · rintro j σ J2 hj ⟨y3, rfl, hJ2, w2⟩
        have tb : turns ≤ 100 := by decide +kernel
        refine ⟨_, rfl, ⟨p, _, rfl, w2, by omega, fun J3 f3 w3 => ⟨_, rfl, ?_⟩⟩⟩
        exact ⟨_, rfl, hJ2.fr w2 f3, w3.mono (by omega)⟩
      · rintro σ J2 ⟨y3, rfl, hJ2, w2⟩
        exact ⟨_, _, _, rfl, hJ2⟩
    · rintro σ J ⟨y1, y2, y3, rfl, hJ⟩
      exact q J
end

/-! ### own errors with the attribute value -/
section
open PySem.W PySem.Calls
variable {prog : Program} {w : World} {A : Around} {E : Value → Shared → Prop} {s : Shared} {K : Frag} {x D : Addr} {ox : Obj} {od : Obj}
theorem kin_classX {Q : Option Value → Shared → Prop} (hga : findIn K (.ref D) "__getattribute__" = some (some (.builtin "BaseException.__getattribute__"))) (hgt : findIn K (.ref D) "__getattr__" = some none) (hsub : subIn K (.ref D) (.type "BaseException") = some true)
    (hdct : hasDictIn K D = true) (ha : findIn K (.ref D) "__class__" = some (some (.builtin "object.__class__")))
    (hn : specialIn K (.builtin "object.__class__") "__get__" = some (some (.builtin "getset_descriptor.__get__"))) (htk : takesIn K (.builtin "object.__class__") = some true) (hm : mroIn K D (.type "object") = some true)
    (X : K.In s.heap) (I : InstAt s.heap x ox D (some od)) (h : Q (some (.ref D)) { s with toks := s.toks + 1 }) : wpAny (model prog w) A (getAttr? (.ref x) "__class__") Q E s := by
  have hf : findObj K D (some od) "__class__" = some (.bind (.builtin "getset_descriptor.__get__") (.builtin "object.__class__")) := findObj_data (by obtain ⟨cd, hc, _⟩ := any_some hdct; rw [hc]; rfl) ha hn htk
  obtain ⟨hp, g, d, t, os⟩ := s
  have L0 := I.type (M := model prog w)
  have L1 := looks_findIn (M := model prog w) X hga
  have L2 := looks_findIn (M := model prog w) X hgt
  have L3 := looks_find (M := model prog w) X I hf
  have sub : Looks (model prog w) hp (isInstance (.ref x) (.type "BaseException")) true := L0.andThen (looks_subIn X hsub)
  have hx0 : (false && onTheHeap (Value.builtin "BaseException.__getattribute__")) = false := rfl
  have hx2 : (Value.builtin "BaseException.__getattribute__" == Value.builtin "object.__getattribute__") = false := by decide +kernel
  have hx1 : (onTheHeap (Value.ref D) && Value.builtin "BaseException.__getattribute__" == Value.builtin "object.__getattribute__") = false := by rw [hx2]; rfl
  unfold getAttr? getAttrBy? getAttrBy
  refine wpAny_bind (wpAny_mkText (wpAny_bind (wpAny_attempt (wpAny_holding (wpAny_bind (L0.at (wpAny_bind (L1.at ?_))))))))
  show wpAny _ _ (if (onTheHeap (Value.ref D) && Value.builtin "BaseException.__getattribute__" == Value.builtin "object.__getattribute__") = true then _ else _) _ _ _
  rw [hx1, if_neg Bool.false_ne_true]
  unfold getAttrByItsOwn hookBefore
  refine wpAny_bind ?_
  rw [if_pos (show onTheHeap (Value.ref D) = true from rfl)]
  refine L2.at ?_
  refine wpAny_bind (wpAny_attempt (wpAny_holding ?_))
  unfold callGetattribute
  rw [hx0, if_neg Bool.false_ne_true]
  unfold boundAndCalled
  rw [PySem.F.excAttr_ValueError.ga.bind (.ref x)]
  refine wpAny_bind (wpAny_pure ?_)
  show wpAny _ _ (call (.builtin "BaseException.__getattribute__") [.ref x, .str "__class__" t]) _ _ _
  refine wpAny_call (codeAny_call_builtin PySem.F.excAttr_ValueError.ga.plain PySem.F.entry_bexc_ga ?_)
  refine @check_slot (model prog w) _ _ ⟨hp, g, d, t + 1, os⟩ "BaseException.__getattribute__" "BaseException" "__getattribute__" (.ref x) [.str "__class__" t] [] _ (by decide +kernel) (by decide +kernel) sub (PySem.F.args_bexc_ga (.ref x) (.str "__class__" t)) ?_
  unfold Builtin.«object.__getattribute__»
  refine wpAny_bind (wpAny_of_eq (a := ((Value.ref x : Value), [Value.str "__class__" t])) (by first | rfl | (simp only [slotArgs]; rfl)) ?_)
  refine wpAny_bind (wpAny_pure (wpAny_bind (L0.at (wpAny_bind (L3.at ?_)))))
  show wpAny _ _ (holding [Value.builtin "object.__class__"] (call (.builtin "getset_descriptor.__get__") [.builtin "object.__class__", .ref x, .ref D]) >>= ret) _ _ _
  refine wpAny_bind (wpAny_holding (wpAny_call (class_get (s := ⟨hp, g, d, t + 1, os⟩) (ox := ox) (od := some od) X I hm ?_)))
  refine wpAny_pure ?_
  show wpAny _ _ (handedOut (.ref D)) _ _ _
  rw [handedOut_of (v := .ref D) rfl]
  first
    | exact wpAny_pure (wpAny_pure h)
    | exact wpAny_pure h
    | exact wpAny_pure (wpAny_bind (wpAny_pure (wpAny_pure h)))
theorem kitx_excX (hga : findIn K (.ref D) "__getattribute__" = some (some (.builtin "BaseException.__getattribute__"))) (hgt : findIn K (.ref D) "__getattr__" = some none) (hsub : subIn K (.ref D) (.type "BaseException") = some true) (hdct : hasDictIn K D = true) (ha : findIn K (.ref D) "__class__" = some (some (.builtin "object.__class__")))
    (hn : specialIn K (.builtin "object.__class__") "__get__" = some (some (.builtin "getset_descriptor.__get__"))) (htk : takesIn K (.builtin "object.__class__") = some true) (hm : mroIn K D (.type "object") = some true) :
    KitX K (.ref x) (.ref D) (fun h => InstAt h x ox D (some od)) where
  ty := fun _ _ _ I => I.type
  it := fun _ _ X _ => by
    obtain ⟨cdD, hcD, _⟩ := any_some hdct
    unfold clsIn at hcD
    split at hcD
    · rename_i c' d' cd' sl' ho
      intro A' Q' E' s' k q
      unfold isType loadHead
      exact wpAny_bind (wpAny_loadPart (k _ _ (X _ _ ho)) (wpAny_pure q))
    · cases hcD
  ne := fun h tp dd its n sl X htp => by
    obtain ⟨cdD, hcD, _⟩ := any_some hdct
    refine Bool.eq_false_iff.mpr fun q => ?_
    have e : D = tp := Value.ref.inj (beq_iff_eq.mp q)
    subst e
    unfold clsIn at hcD
    split at hcD
    · rename_i c' d' cd' sl' ho
      have z := (X _ _ ho).symm.trans htp
      cases z
    · cases hcD
  ca := fun X I k => kin_classX hga hgt hsub hdct ha hn htk hm X I k
end
/-- what the top has written of an own error class: it stands at C, its __init__ is the def at fI -/
structure ErrC (K : PySem.W.Frag) (C fI : Addr) : Prop where
  ox : OexC K C
  noV : PySem.W.findIn K (.ref C) "value" = some none
  iC : PySem.W.findIn K (.ref C) "__init__" = some (some (.ref fI))
  xc : ExcC K C
/-- the error that the suite holds: at a, of the class D, its value v -/
def HeldE (K : PySem.W.Frag) (cls : Value) (d : Option Addr) (v : V) (D fI : Addr) (H : Hp) : Prop := cls = .ref D ∧ ErrC K D fI ∧ ∃ dd, d = some dd ∧ H dd = some (.xd [(("value" : Str), v)])
def rIsX (K : PySem.W.Frag) (a : Addr) (cls : Value) (d : Option Addr) : List V → Hp → VK → Prop := fun xs H Q => ∃ (D fI : Addr) (v c : V) (cv : Value) (b : Bool), xs = [.ref a, c] ∧ HeldE K cls d v D fI H ∧ (∀ u, RelV c u → u = cv) ∧ PySem.W.kitOne K (.ref D) cv = some b ∧ Q (.bl b) H
theorem call_isX {X : Cx} {a : Addr} {oe : Obj} {cls : Value} {d : Option Addr} {pn : List (Addr × Obj)} (hz : Zc cls d oe) (hf : ∃ vs, oe.data = .fields vs) : CallR (X.suite a ((a, oe) :: pn)) (.builtin "isinstance") (rIsX X.K a cls d) := by
  intro pins s σ H xs us Q I r h
  obtain ⟨D, fI, v, c, cv, b, rfl, ⟨rfl, C, dd, rfl, ea⟩, hcv, e, q⟩ := h
  cases r with
  | cons rx rr =>
    cases rr with
    | cons rt rr =>
      cases rr
      cases rx
      have ec := hcv _ rt
      subst ec
      obtain ⟨hget, _⟩ := I.pin (a, oe) (List.mem_append.mpr (.inl List.mem_cons_self))
      obtain ⟨vs, hd⟩ := hf
      have hx : ObjOk X.prog X.w H s.heap dd (.xd [(("value" : Str), v)]) := I.hok dd _ ea
      obtain ⟨mA, hns, hr⟩ := hx
      obtain ⟨od, ho, hl⟩ := lookIn_ns hns
      have J : PySem.W.InstAt s.heap a oe D (some od) := ⟨hget, hz.1, by unfold PySem.W.notCls; rw [hd] <;> rfl, by rw [hz.2]; exact ho⟩
      exact PySem.W.kia_one (kitx_excX C.xc.hg C.xc.hk C.xc.hs C.xc.hd C.xc.ha C.xc.hn C.xc.ht C.xc.hm) I.kIn J e (fun z => nomatch z) fun tk => ⟨.bl b, H, I.kept (t' := tk) fun _ _ z => z, rfl, q⟩
/-- e.value -/
def tVal (K : PySem.W.Frag) (a : Addr) (cls : Value) (d : Option Addr) (te : TE) : TE := fun σ H Q => te σ H fun x H1 => x = .ref a ∧ ∃ (D fI : Addr) (v : V), HeldE K cls d v D fI H1 ∧ Q v H1
theorem pe_val {X : Cx} {a : Addr} {oe : Obj} {cls : Value} {d : Option Addr} {pn : List (Addr × Obj)} {e : Expr} {te : TE} {pos : Pos} (hz : Zc cls d oe) (hf : ∃ vs, oe.data = .fields vs) (he : PE (X.suite a ((a, oe) :: pn)) e te)
    (hb : attributeBase e "value" X.env (eval e X.env) = eval e X.env := by rfl) : PE (X.suite a ((a, oe) :: pn)) (.Attribute e "value" pos) (tVal X.K a cls d te) := by
  refine ⟨fun pins s σ H Q I h => ?_⟩
  refine attr_of hb (thn (he.run pins s σ H _ I h) fun u s1 hh => ?_)
  obtain ⟨x, H1, I1, rx, ex, D, fI, v, ⟨ec, C, dd, ed, ea⟩, q⟩ := hh
  subst ex
  obtain rfl : u = Value.ref a := rx
  subst ec
  subst ed
  obtain ⟨ha, _⟩ := I1.pin (a, oe) (List.mem_append_left _ List.mem_cons_self)
  obtain ⟨vs, hd⟩ := hf
  have hx : ObjOk X.prog X.w H1 s1.heap dd (.xd [(("value" : Str), v)]) := I1.hok dd _ ea
  obtain ⟨mA, hns, hr⟩ := hx
  obtain ⟨od, ho, hl⟩ := lookIn_ns hns
  have l : List.lookup ("value" : Str) [(("value" : Str), v)] = some v := by simp [List.lookup]
  obtain ⟨u, hu, ru⟩ := RelO.some_of (v := v) (o := mA "value") (by rw [← l]; exact hr "value")
  have J : PySem.W.InstAt s1.heap a oe D (some od) := ⟨ha, hz.1, by unfold PySem.W.notCls; rw [hd] <;> rfl, by rw [hz.2]; exact ho⟩
  exact HandSPX.exc_get I1.kIn J C.xc.hg C.xc.hk C.xc.hs (PySem.W.findObj_own C.xc.hd C.noV rfl (by rw [hl, hu])) (handed_of ru) ⟨v, H1, I1.tok _, ru, q⟩
/-! ### C(e, ..) that may raise, wished for at the slots -/
section
variable {X : Cx} {CX : CXT} {k : Nat} {f C : Addr} {fd : FuncData} {ps : List Str} {sp : Sp} {E : L2.St → XK} {x : Str} {p pos : Pos} {e : Expr} {es : List Expr} {t : TA} {ds : List Value} {dvs : List V}
def tMakeS (C : Addr) (sp : Sp) (dvs : List V) (E : L2.St → XK) (t : TA) : TE := fun σ H Q => t σ H fun vs H1 => ∀ x dx, H1 x = none → H1 dx = none → dx ≠ x →
  sp (.ref x :: (vs ++ dvs)) (upd (upd H1 dx (.own x)) x (.ins C dx [])) (fun v H2 => v = .non ∧ Q (.ref x) H2) (E σ)
theorem pe_makeS (M : Mk X.K C f) (F : FnOk X.prog X.w X.K X.mg X.base CX k f fd ps sp) (hr : Room (k + 1) X.A) (hg : Gl X x) (hm : X.mg x = some (.ref C)) (hb : Binds X.K fd ps ds) (hd : Vals dvs ds) (hx : ∀ σ, PassesAt CX X σ (E σ))
    (ha : PA X (e :: es) t) (hdb : (x == ("__debug__" : Str)) = false := by decide) (he : starEach (e :: es) X.env = (false, eval e X.env) :: starEach es X.env := by rfl) (hpl : (backTo pos (starEach es X.env)).any (·.1) = false := by rfl) :
    PE X (.Call (.Name x p) (e :: es) [] pos) (tMakeS C sp dvs E t) := by
  refine ⟨fun pins s σ H Q I h => ?_⟩
  refine wpAny_Call_Name_kw (ld_glob I hg hm ?_ hdb)
  refine PySem.W.callWith_K (h₀ := X.base) I.ok.mod.kin M.kp (thn (ha.run pos pins s σ H _ I h) fun us s1 ⟨vs, H1, I1, r, q⟩ => ⟨I1.kIn, ?_⟩) he hpl
  have hq := q (s1.heap.objs.size + 1) s1.heap.objs.size (I1.hok.fresh (Nat.le_succ _)) (I1.hok.fresh (Nat.le_refl _)) (Nat.ne_of_lt (Nat.lt_succ_self _))
  have I2 := Inv.made (C := C) I1
  have r2 : Vals (V.ref (s1.heap.objs.size + 1) :: (vs ++ dvs)) (Value.ref (s1.heap.objs.size + 1) :: (us ++ ds)) := .cons rfl (r.append hd)
  have hl : (Value.ref (s1.heap.objs.size + 1) :: us ++ ds).length = ps.length := by
    have e := r2.length
    rw [F.len _ _ _ _ hq] at e
    exact e.symm
  refine wpAny_call (make_map (f := f) I1.kIn M.makes M.init (beq_iff_eq.mp M.fn) (codeAny_mono (F.run _ X.stack _ _ ⟨Value.ref (s1.heap.objs.size + 1) :: us, []⟩ (Value.ref (s1.heap.objs.size + 1) :: (us ++ ds)) _ _ (E σ) (hr.make C us [])
    (I2.env0.make C us []) (hb _ (Value.ref (s1.heap.objs.size + 1) :: us) I2.kIn hl) r2 hq) fun r s' hq' => ?_))
  cases r with
  | error e => exact hx σ pins _ _ e s' I2 hq'
  | ok fl =>
    cases fl with
    | ret u =>
      obtain ⟨v, H', I3, rv, ev, q3⟩ := I2.after hq'
      subst ev
      exact ⟨rv, ⟨V.ref (s1.heap.objs.size + 1), H', I3, rfl, q3⟩⟩
    | next => exact False.elim hq'
    | brk => exact False.elim hq'
    | cont => exact False.elim hq'
end
/-! ### the errors' __init__ -/
def spErr (K : PySem.W.Frag) : Sp := fun vs H Q _ => ∃ (a C : Addr) (v : V), vs = [.ref a, v] ∧ OexC K C ∧ PySem.W.findIn K (.ref C) "value" = some none ∧ H a = some (exo a C none) ∧
  ∀ dx, H dx = none → dx ≠ a → Q .non (upd (upd H dx (exd dx [(("value" : Str), v)])) a (exo a C (some dx)))
section
variable {P : Program} {w : World} {K : PySem.W.Frag} {mg : Str → Option Value} {base : Heap}
theorem scErr : FnScope ["self", "value"] ["self", "value"] (defScope sErr) := ⟨rfl, rfl, rfl, by decide +kernel, rfl, by decide +kernel, by decide +kernel⟩
theorem ok_err {f : Addr} {fd : FuncData} (F : Fun K "__init__" "DueError.__init__" sErr f fd) : FnOk P w K mg base CX0 1 f fd ["self", "value"] (spErr K) := by
  refine F.ok scErr (fun vs H Q E h => ?_) (fun cdv A outer s H vs Q E hr h => ?_)
  · obtain ⟨a, C, v, rfl, _⟩ := h
    rfl
  · obtain ⟨a, C, v, rfl, ox, nv, ha, k⟩ := h
    refine ⟨_, pss_one (ps_ost (pv 0) (pv 1)), ?_⟩
    exact ⟨_, rfl, _, rfl, a, C, rfl, ox, nv, .inl ⟨ha, fun dx nd ne => k dx nd ne⟩⟩
end
/-- an error is made: what its raising asks -/
theorem err_made {K : PySem.W.Frag} {C a : Addr} {v : V} {H1 : Hp} {Q : XK} {E : XK} (ox : OexC K C) (nv : PySem.W.findIn K (.ref C) "value" = some none) (na : H1 a = none)
    (k : ∀ (d : Addr) (H' : Hp), Same H1 H' → H1 d = none → H' d = some (.xd [(("value" : Str), v)]) → Q (.ref C) (some d) H') :
    spErr K [.ref a, v] (upd H1 a (exo a C none)) (fun v H2 => v = .non ∧ ∃ (d : Addr) (fs : List (Str × V)), H2 a = some (exo a C (some d)) ∧ H2 d = some (exd d fs) ∧ H1 d = none ∧ Q (.ref C) (some d) (upd (del H2 a) d (.xd fs))) E := by
  refine ⟨a, C, v, rfl, ox, nv, upd_same, fun dx nd ne => ⟨rfl, dx, [(("value" : Str), v)], upd_same, ?_, ?_, ?_⟩⟩
  · rw [upd_ne ne]
    exact upd_same
  · rw [upd_ne ne] at nd
    exact nd
  · have nd' : H1 dx = none := by
      rw [upd_ne ne] at nd
      exact nd
    refine k dx _ (fun b o e => ?_) nd' upd_same
    have b1 : b ≠ dx := ne_of_none e nd'
    have b2 : b ≠ a := ne_of_none e na
    rw [upd_ne b1, del_ne b2, upd_ne b2, upd_ne b1, upd_ne b2]
    exact e

/-! ### an own error class called by keywords alone -/
namespace EK
open PySem PySem.W PySem.Calls PySem.HandSPX
section
variable {prog : Program} {w : World} {A : Around} {E : Value → Shared → Prop} {R : Result → Shared → Prop} {h : Heap} {g : Array GenState} {d : Drawn} {t : Nat} {os : OsState}
variable {nm q : Str} {C N : Addr} {bs bm bmB : List Value} {hdct : Bool} {sn : List Str} {sub : List Value} {ab : Bool} {col : Option Bool} {dd : Option Addr} {k0 k1 k2 k3 k5 : Option Value} {B newId initId : String}
theorem check_new {M : Model} (F : ExcBaseFacts B newId initId bmB) (hT : ∀ X : String, bm.contains (.type X) = bmB.contains (.type X)) {kws : List (Str × Value)} {Q : Unit → Shared → Prop}
    (hC : h.get? C = some (excClassObj nm q C N bs bm hdct sn sub ab col dd k0 k1 k2 k3 k5 newId)) (hq : Q () ⟨h, g, d, t, os⟩) : wpAny M A (checkBuiltinCall newId ⟨[.ref C], kws⟩) Q E ⟨h, g, d, t, os⟩ := by
  have hcont : (Value.ref C :: bm).contains (.type B) = true := by rw [List.contains_cons, hT, F.hasB, Bool.or_true]
  have hstar := F.noStar
  simp only [checkBuiltinCall, F.newKind, F.newSplit, F.newRow]
  repeat (first | refine wpAny_loadPart_at hC ?_ | (refine wpAny_isSubtype_exc hC ?_; rw [hcont]) | refine wpAny_staticBase_exc hC ?_ | refine wpAny_madeBy_exc hC ?_ | simp only [bne_self_eq_false, Bool.false_eq_true, if_false] | wp_step)
  exact hq
theorem new_ (F : ExcBaseFacts B newId initId bmB) (hT : ∀ X : String, bm.contains (.type X) = bmB.contains (.type X)) {kws : List (Str × Value)}
    (hC : h.get? C = some (excClassObj nm q C N bs bm hdct sn sub ab col dd k0 k1 k2 k3 k5 newId))
    (hq : R (.ok (.ret (.ref (h.objs.size + 1)))) ⟨(h.push { cls := .type "tuple", data := .seq ([] : List Value).toArray }).push
      { cls := .ref C, data := .fields #[.ref h.objs.size, .none, .none, .none, .bool false, .none] }, g, d, t, os⟩) :
    codeAny (model prog w) A (.builtin newId ⟨[.ref C], kws⟩) R ⟨h, g, d, t, os⟩ := by
  have hends := F.ends
  have hcB : (Value.ref C :: bm).contains (.type B) = true := by rw [List.contains_cons, hT, F.hasB, Bool.or_true]
  have hcA : (Value.ref C :: bm).contains (.type "AttributeError") = false := by rw [List.contains_cons, hT, F.noAttr]; rfl
  have hcN : (Value.ref C :: bm).contains (.type "NameError") = false := by rw [List.contains_cons, hT, F.noName]; rfl
  have hrest : ([] : List Value).length ≤ sizeLine := Nat.zero_le _
  refine codeAny_builtinAt F.entry ?_
  unfold Builtin.«BaseException.__new__»
  refine PySem.wpAt_bind ?_
  show PySem.wpAt _ _ _ (stack >>= _) _ _ _
  refine PySem.wpAt_bind (PySem.wpAt_stack fun p below => PySem.wpAt_of_wpAny ?_)
  wp_walk
  refine PySem.wpAt_of_wpAny ?_
  rw [F.owner]
  repeat (first | with_reducible refine wpAny_madeHere_exc F.canon hC ?_ | with_reducible refine wpAny_loadPart_at hC ?_ | (with_reducible refine wpAny_isSubtype_exc hC ?_; first | rw [hcB] | rw [hcA] | rw [hcN]) | wp_step)
  show R _ _
  rw [Heap.size_push]
  exact hq
theorem type_call (F : ExcBaseFacts B newId initId bmB) (hT : ∀ X : String, bm.contains (.type X) = bmB.contains (.type X)) {kws : List (Str × Value)} {fI : Addr} {Q : Fin → Shared → Prop}
    (hC : h.get? C = some (excClassObj nm q C N bs bm hdct sn sub ab col dd k0 k1 k2 k3 k5 newId))
    (hi : W.Looks (model prog w) h (typeLookup (.ref C) "__init__") (some (.ref fI))) (hb : ∀ self, W.Looks (model prog w) h (bindSpecial (.ref fI) self) (.ref fI, [self]))
    (hq : codeAny (model prog w) A (.call (.ref fI) ⟨[.ref (h.objs.size + 1)], kws⟩)
      (fun r s' => match r with | .ok (.ret v) => v = .none ∧ Q (.done (.ret (.ref (h.objs.size + 1)))) s' | .ok _ => False | .error e => E e s')
      ⟨(h.push (W.kdv_tup [])).push (excO C h.objs.size), g, d, t, os⟩) :
    wpAny (model prog w) A (Builtin.«type.__call__» ⟨[.ref C], kws⟩) Q E ⟨h, g, d, t, os⟩ := by
  repeat (first | with_reducible refine wpAny_loadPart_at hC ?_ | with_reducible refine wpAny_madeBy_exc hC ?_ | wp_step)
  refine codeAny_call_builtin_code (Code.quiet_builtin _ F.quiet) (check_new F hT hC ?_)
  refine new_ F hT hC ?_
  show wpAny _ _ _ _ _ _
  have k : ∀ b o, h.get? b = some o → ((h.push (W.kdv_tup [])).push (excO C h.objs.size)).get? b = some o := fun b o e => Heap.get?_push_of_some _ (Heap.get?_push_of_some _ e)
  have hC₁ := k _ _ hC
  have hget : ((h.push (W.kdv_tup [])).push (excO C h.objs.size)).get? (h.objs.size + 1) = some (excO C h.objs.size) := by heap_get
  have hcC : (Value.ref C :: bm).contains (.ref C) = true := by simp
  have i1 := hi.keeps k
  have b1 := (hb (.ref (h.objs.size + 1))).keeps k
  unfold isInstance
  repeat (first | with_reducible refine wpAny_loadPart_at hget ?_ | (with_reducible refine wpAny_isSubtype_exc hC₁ ?_; rw [hcC]) | wp_step)
  show wpAny _ _ (typeLookup (.ref C) _) _ _ _
  refine i1.at ?_
  refine wpAny_holding (wpAny_bind (b1.at ?_))
  refine wpAny_bind (wpAny_call (codeAny_mono hq fun r s' z => ?_))
  rcases r with e | (v | _ | _ | _) <;> first | exact z | exact z.elim | skip
  obtain ⟨rfl, z⟩ := z
  first
    | exact wpAny_pure (wpAny_pure z)
    | (wp_walk; exact z)
theorem call_own (F : ExcBaseFacts B newId initId bmB) (hT : ∀ X : String, bm.contains (.type X) = bmB.contains (.type X)) {kws : List (Str × Value)} {fI : Addr}
    (hC : h.get? C = some (excClassObj nm q C N bs bm hdct sn sub ab col dd k0 k1 k2 k3 k5 newId))
    (hi : W.Looks (model prog w) h (typeLookup (.ref C) "__init__") (some (.ref fI))) (hb : ∀ self, W.Looks (model prog w) h (bindSpecial (.ref fI) self) (.ref fI, [self]))
    (hq : codeAny (model prog w) (A.under (.builtin "type.__call__" ⟨[.ref C], kws⟩)) (.call (.ref fI) ⟨[.ref (h.objs.size + 1)], kws⟩) (W.InitBack (h.objs.size + 1) R)
      ⟨(h.push (W.kdv_tup [])).push (excO C h.objs.size), g, d, t, os⟩) :
    codeAny (model prog w) A (.call (.ref C) ⟨[], kws⟩) R ⟨h, g, d, t, os⟩ := by
  have f1 := tc_lookup
  have f2 := tc_bind (.ref C)
  have hTy : (⟨h, g, d, t, os⟩ : Shared).TypeIs (.ref C) "type" := ⟨_, hC, rfl⟩
  refine codeAny_of_tree ?_
  show wpAny _ _ (callAny (.ref C) _) _ _ _
  repeat (any_goals (first | assumption | with_reducible refine wpAny_loadPart_at hC ?_ | wp_step))
  refine ⟨rfl, ?_⟩
  refine codeAny_call_builtin_at (Code.quiet_builtin _ (by decide +kernel)) entry_typeCall (wpAny_check_type_call_sub hC (type_call F hT hC hi hb ?_))
  refine codeAny_mono hq fun r s' z => ?_
  rcases r with e | (v | _ | _ | _) <;> exact z
end
end EK

/-! ### raise C(name = v) -/
def Rais (H : Hp) (E : XK) (C : Addr) (v : V) : Prop := ∀ (d : Addr) (H' : Hp), Same H H' → H d = none → H' d = some (.xd [(("value" : Str), v)]) → E (.ref C) (some d) H'
def tMkK (C : Addr) (n : Nat) (sp : Sp) (gV : List V → List V → List V) (tk : TA) : L2.St → Hp → XK → Prop := fun σ H Q => tk σ H fun zs H1 => zs.length = n ∧ ∀ a, H1 a = none → sp (gV [.ref a] zs) (upd H1 a (exo a C none))
  (fun v H2 => v = .non ∧ ∃ (d : Addr) (fs : List (Str × V)), H2 a = some (exo a C (some d)) ∧ H2 d = some (exd d fs) ∧ H1 d = none ∧ Q (.ref C) (some d) (upd (del H2 a) d (.xd fs))) (fun _ _ _ => False)
section
variable {X : Cx} {p pos : Pos} {kws : List Keyword} {tk : TA} {ks : List Str} {g : List Value → List Value → List Value} {gV : List V → List V → List V}
theorem pmk_oexK {CX : CXT} {x : Str} {C fI : Addr} {k : Nat} {fd : FuncData} {ps : List Str} {sp : Sp} (T : OexC X.K C) (iC : PySem.W.findIn X.K (.ref C) "__init__" = some (some (.ref fI))) (tI : PySem.W.typeIn X.K (.ref fI) = some (.type "function"))
    (F1 : FnOk X.prog X.w X.K X.mg X.base CX k fI fd ps sp) (hr : Room (k + 1) X.A) (hb : KBn X.K fd ps 1 ks g gV) (hx : Passes CX X (fun _ _ _ => False)) (hg : Gl X x) (hm : X.mg x = some (.ref C)) (hkw : PK X kws tk)
    (hall : (backToKw pos (keywordEach kws X.env)).all (·.1.isSome) = true := by rfl) (hks : (backToKw pos (keywordEach kws X.env)).filterMap (·.1) = ks := by rfl) (hdb : (x == ("__debug__" : Str)) = false := by decide)
    (hpl : ((backTo pos (starEach [] X.env)).any (·.1) || (backToKw pos (keywordEach kws X.env)).any (·.1.isNone)) = false := by rfl) :
    PMk X (.Call (.Name x p) [] kws pos) (tMkK C ks.length sp gV tk) := by
  intro pins s σ H Q I h
  obtain ⟨nm, q, N, bs, bm, sn, sub, ab, col, dd, k0, k1, k2, k3, k5, hC, hbm⟩ := T.cls
  refine wpAny_Call_Name_kw (ld_glob I hg hm ?_ hdb)
  refine PySem.W.callWith_KW0 (h₀ := X.base) I.ok.mod.kin T.kC hall ?_ hpl
  refine thn (hkw.run pos pins s σ H _ I h) fun ws s1 ⟨zs, H1, I1, rz, l2, q1⟩ => ⟨I1.kIn, ?_⟩
  rw [hks]
  show wpAny _ _ (call (.ref C) [] (ks.zip ws)) _ _ _
  obtain ⟨hp, g', dr, tk', os⟩ := s1
  have hsz : hp.objs.size ≤ hp.objs.size + 1 := Nat.le_succ _
  have hn : H1 (hp.objs.size + 1) = none := I1.hok.fresh hsz
  have hq := q1 (hp.objs.size + 1) hn
  have kk : ∀ b o, hp.get? b = some o → ((hp.push (PySem.W.kdv_tup [])).push (PySem.HandSPX.excO C hp.objs.size)).get? b = some o := fun b o e => Heap.get?_push_of_some _ (Heap.get?_push_of_some _ e)
  have hget : ((hp.push (PySem.W.kdv_tup [])).push (PySem.HandSPX.excO C hp.objs.size)).get? (hp.objs.size + 1) = some (PySem.HandSPX.excO C hp.objs.size) := by heap_get
  have I2 : Inv X pins σ (upd H1 (hp.objs.size + 1) (exo (hp.objs.size + 1) C none)) ⟨(hp.push (PySem.W.kdv_tup [])).push (PySem.HandSPX.excO C hp.objs.size), g', dr, tk', os⟩ :=
    I1.laid (t' := tk') (a := hp.objs.size + 1) (o := exo (hp.objs.size + 1) C none) (h' := (hp.push (PySem.W.kdv_tup [])).push (PySem.HandSPX.excO C hp.objs.size)) kk hsz (exo_ok hget)
  have r1 : Vals [V.ref (hp.objs.size + 1)] [Value.ref (hp.objs.size + 1)] := .cons rfl .nil
  have r2 := hb.rel r1 rz
  refine wpAny_call (EK.call_own F.excBase_ValueError (fun Y => PySem.HandSPX.refsVE_contains Y bm hbm) (I1.kIn _ _ hC) (PySem.W.looks_findIn I1.kIn iC) (fun self => PySem.W.bind_fn I1.kIn self tI)
    (codeAny_mono (F1.run _ X.stack _ _ ⟨[Value.ref (hp.objs.size + 1)], ks.zip ws⟩ (g [Value.ref (hp.objs.size + 1)] ws) _ _ (fun _ _ _ => False) (hr.make C [] (ks.zip ws)) (I2.env0.make C [] (ks.zip ws)) (hb.to _ [Value.ref (hp.objs.size + 1)] ws I2.kIn rfl (rz.length.symm.trans l2)) r2 hq) fun r s' hq' => ?_))
  cases r with
  | error er => exact hx pins σ _ _ er s' I2 hq'
  | ok fl =>
    cases fl with
    | ret u =>
      obtain ⟨v, H2, os2, bare2, un2, hok2, rv, ev, d, fs, ea, ed, hd1, q2⟩ := hq'
      subst ev
      obtain ⟨h2, g2, d2, t2, os'⟩ := s'
      exact ⟨rv, mk_end (raises_own T.exC T.tyC) I1 hsz kk un2 hok2 os2 bare2 ea ed hd1 q2⟩
    | next => exact False.elim hq'
    | brk => exact False.elim hq'
    | cont => exact False.elim hq'
end

/-! ### raising each class -/
theorem of_dec2 {a b : Int} (c : decide (V.int a = V.int b) = true) : a = b := by
  have := of_decide_eq_true c
  injection this
theorem not_dec2 {a b : Int} (c : ¬ decide (V.int a = V.int b) = true) : ¬ a = b := fun e => c (decide_eq_true (by rw [e]))
structure Er14 (K : PySem.W.Frag) (mg : Str → Option Value) (cs : Int → Addr) (fI : Addr) : Prop where
  e : ∀ i : Int, 0 ≤ i → i ≤ 13 → ErrC K (cs i) fI
  g0 : mg "DueError" = some (.ref (cs 0))
  g1 : mg "InvalidWeek" = some (.ref (cs 1))
  g2 : mg "InvalidSpeed" = some (.ref (cs 2))
  g3 : mg "NeverOpen" = some (.ref (cs 3))
  g4 : mg "InvalidChange" = some (.ref (cs 4))
  g5 : mg "InvalidAmount" = some (.ref (cs 5))
  g6 : mg "InvalidSpan" = some (.ref (cs 6))
  g7 : mg "InvalidMoment" = some (.ref (cs 7))
  g8 : mg "UnlikeWeeks" = some (.ref (cs 8))
  g9 : mg "NotRising" = some (.ref (cs 9))
  g10 : mg "WrongState" = some (.ref (cs 10))
  g11 : mg "NothingToUndo" = some (.ref (cs 11))
  g12 : mg "TooMany" = some (.ref (cs 12))
  g13 : mg "Unreadable" = some (.ref (cs 13))
  tI : PySem.W.typeIn K (.ref fI) = some (.type "function")
  kit : ∀ i : Int, 0 ≤ i → i ≤ 13 → PySem.W.kitOne K (.ref (cs i)) (.ref (cs 1)) = some (decide ((1 : Int) = i)) ∧ PySem.W.kitOne K (.ref (cs i)) (.ref (cs 2)) = some (decide ((2 : Int) = i)) ∧ PySem.W.kitOne K (.ref (cs i)) (.ref (cs 3)) = some (decide ((3 : Int) = i)) ∧ PySem.W.kitOne K (.ref (cs i)) (.ref (cs 4)) = some (decide ((4 : Int) = i)) ∧ PySem.W.kitOne K (.ref (cs i)) (.ref (cs 5)) = some (decide ((5 : Int) = i)) ∧ PySem.W.kitOne K (.ref (cs i)) (.ref (cs 6)) = some (decide ((6 : Int) = i)) ∧ PySem.W.kitOne K (.ref (cs i)) (.ref (cs 7)) = some (decide ((7 : Int) = i)) ∧ PySem.W.kitOne K (.ref (cs i)) (.ref (cs 8)) = some (decide ((8 : Int) = i)) ∧ PySem.W.kitOne K (.ref (cs i)) (.ref (cs 9)) = some (decide ((9 : Int) = i)) ∧ PySem.W.kitOne K (.ref (cs i)) (.ref (cs 10)) = some (decide ((10 : Int) = i)) ∧ PySem.W.kitOne K (.ref (cs i)) (.ref (cs 11)) = some (decide ((11 : Int) = i)) ∧ PySem.W.kitOne K (.ref (cs i)) (.ref (cs 12)) = some (decide ((12 : Int) = i)) ∧ PySem.W.kitOne K (.ref (cs i)) (.ref (cs 13)) = some (decide ((13 : Int) = i)) ∧ PySem.W.kitOne K (.ref (cs i)) (.type "ValueError") = some true ∧ PySem.W.exmOne K (.ref (cs i)) (.ref (cs 0)) = some true
def spRs (cs : Int → Addr) : Sp := fun vs H Q E => ∃ (way : Int) (v : V), vs = [.int way, v] ∧ 0 ≤ way ∧ way ≤ 13 ∧ Rais H E (cs way) v
structure AtX (P : Program) (w : World) (K : PySem.W.Frag) (mg : Str → Option Value) (base : Heap) (k : Nat) (x : Str) (ps : List Str) (sp : Sp) (f : Addr) (fd : FuncData) : Prop where
  ok : FnOk P w K mg base (L2.CX P w) k f fd ps sp
  at_ : mg x = some (.ref f)
  kp : PySem.W.keepIn K (.ref f) = true
  bi : Binds K fd ps []
def gE (us ws : List V) : List V := us ++ ws
def gEv (us ws : List Value) : List Value := us ++ ws
theorem kb_err {K : PySem.W.Frag} {f : Addr} {fd : FuncData} (F : Fun K "__init__" "DueError.__init__" sErr f fd) : KBn K fd ["self", "value"] 1 ["value"] gEv gE := by
  obtain ⟨oc, od, kV, doc, pm, an, cdv, ct, osl, rfl, lk, hcd⟩ := F.ex
  refine ⟨fun s us ws _ l1 l2 => ?_, fun {vs us zs ws} r1 r2 => r1.append r2⟩
  match us, l1, ws, l2 with
  | [u], _, [c], _ => exact .of_eq rfl
section
variable {P : Program} {w : World} {K : PySem.W.Frag} {mg : Str → Option Value} {base : Heap}
theorem scRaise : FnScope ["way", "thing"] ["way", "thing"] (defScope sRaise) := ⟨rfl, rfl, rfl, by decide +kernel, rfl, by decide +kernel, by decide +kernel⟩
theorem ok_raise {f fE : Addr} {fd dE : FuncData} {cs : Int → Addr} (F : Fun K "_law_raise" "_law_raise" sRaise f fd) (R : Er14 K mg cs fE) (F1 : FnOk P w K mg base CX0 1 fE dE ["self", "value"] (spErr K)) (b1 : Binds K dE ["self", "value"] []) (kb : KBn K dE ["self", "value"] 1 ["value"] gEv gE) :
    FnOk P w K mg base (L2.CX P w) 3 f fd ["way", "thing"] (spRs cs) := by
  refine F.okX scRaise (fun vs H Q E h => ?_) (fun cdv A outer s H vs Q E hr h => ?_)
  · obtain ⟨way, v, rfl, _⟩ := h
    rfl
  · obtain ⟨way, v, rfl, w0, w1, k⟩ := h
    refine ⟨_, pss_cons (ps_if (pt_cmpR op_eq (pv 0) pe_int (nomark _)) (pss_one (ps_raise rfl (takes_of rfl rfl rfl rfl) (pmk_oexK (R.e 1 (by decide) (by decide)).ox (R.e 1 (by decide) (by decide)).iC R.tI F1 hr kb pass0 (by rfl) R.g1 (pk_cons (pv 1) pk_nil)))) pss_nil)
      (pss_cons (ps_if (pt_cmpR op_eq (pv 0) pe_int (nomark _)) (pss_one (ps_raise rfl (takes_of rfl rfl rfl rfl) (pmk_oexK (R.e 2 (by decide) (by decide)).ox (R.e 2 (by decide) (by decide)).iC R.tI F1 hr kb pass0 (by rfl) R.g2 (pk_cons (pv 1) pk_nil)))) pss_nil)
      (pss_cons (ps_if (pt_cmpR op_eq (pv 0) pe_int (nomark _)) (pss_one (ps_raise rfl (takes_of rfl rfl rfl rfl) (pmk_oexK (R.e 3 (by decide) (by decide)).ox (R.e 3 (by decide) (by decide)).iC R.tI F1 hr kb pass0 (by rfl) R.g3 (pk_cons (pv 1) pk_nil)))) pss_nil)
      (pss_cons (ps_if (pt_cmpR op_eq (pv 0) pe_int (nomark _)) (pss_one (ps_raise rfl (takes_of rfl rfl rfl rfl) (pmk_oexK (R.e 4 (by decide) (by decide)).ox (R.e 4 (by decide) (by decide)).iC R.tI F1 hr kb pass0 (by rfl) R.g4 (pk_cons (pv 1) pk_nil)))) pss_nil)
      (pss_cons (ps_if (pt_cmpR op_eq (pv 0) pe_int (nomark _)) (pss_one (ps_raise rfl (takes_of rfl rfl rfl rfl) (pmk_oexK (R.e 5 (by decide) (by decide)).ox (R.e 5 (by decide) (by decide)).iC R.tI F1 hr kb pass0 (by rfl) R.g5 (pk_cons (pv 1) pk_nil)))) pss_nil)
      (pss_cons (ps_if (pt_cmpR op_eq (pv 0) pe_int (nomark _)) (pss_one (ps_raise rfl (takes_of rfl rfl rfl rfl) (pmk_oexK (R.e 6 (by decide) (by decide)).ox (R.e 6 (by decide) (by decide)).iC R.tI F1 hr kb pass0 (by rfl) R.g6 (pk_cons (pv 1) pk_nil)))) pss_nil)
      (pss_cons (ps_if (pt_cmpR op_eq (pv 0) pe_int (nomark _)) (pss_one (ps_raise rfl (takes_of rfl rfl rfl rfl) (pmk_oexK (R.e 7 (by decide) (by decide)).ox (R.e 7 (by decide) (by decide)).iC R.tI F1 hr kb pass0 (by rfl) R.g7 (pk_cons (pv 1) pk_nil)))) pss_nil)
      (pss_cons (ps_if (pt_cmpR op_eq (pv 0) pe_int (nomark _)) (pss_one (ps_raise rfl (takes_of rfl rfl rfl rfl) (pmk_oexK (R.e 8 (by decide) (by decide)).ox (R.e 8 (by decide) (by decide)).iC R.tI F1 hr kb pass0 (by rfl) R.g8 (pk_cons (pv 1) pk_nil)))) pss_nil)
      (pss_cons (ps_if (pt_cmpR op_eq (pv 0) pe_int (nomark _)) (pss_one (ps_raise rfl (takes_of rfl rfl rfl rfl) (pmk_oexK (R.e 9 (by decide) (by decide)).ox (R.e 9 (by decide) (by decide)).iC R.tI F1 hr kb pass0 (by rfl) R.g9 (pk_cons (pv 1) pk_nil)))) pss_nil)
      (pss_cons (ps_if (pt_cmpR op_eq (pv 0) pe_int (nomark _)) (pss_one (ps_raise rfl (takes_of rfl rfl rfl rfl) (pmk_oexK (R.e 10 (by decide) (by decide)).ox (R.e 10 (by decide) (by decide)).iC R.tI F1 hr kb pass0 (by rfl) R.g10 (pk_cons (pv 1) pk_nil)))) pss_nil)
      (pss_cons (ps_if (pt_cmpR op_eq (pv 0) pe_int (nomark _)) (pss_one (ps_raise rfl (takes_of rfl rfl rfl rfl) (pmk_oexK (R.e 11 (by decide) (by decide)).ox (R.e 11 (by decide) (by decide)).iC R.tI F1 hr kb pass0 (by rfl) R.g11 (pk_cons (pv 1) pk_nil)))) pss_nil)
      (pss_cons (ps_if (pt_cmpR op_eq (pv 0) pe_int (nomark _)) (pss_one (ps_raise rfl (takes_of rfl rfl rfl rfl) (pmk_oexK (R.e 12 (by decide) (by decide)).ox (R.e 12 (by decide) (by decide)).iC R.tI F1 hr kb pass0 (by rfl) R.g12 (pk_cons (pv 1) pk_nil)))) pss_nil)
      (pss_cons (ps_if (pt_cmpR op_eq (pv 0) pe_int (nomark _)) (pss_one (ps_raise rfl (takes_of rfl rfl rfl rfl) (pmk_oexK (R.e 13 (by decide) (by decide)).ox (R.e 13 (by decide) (by decide)).iC R.tI F1 hr kb pass0 (by rfl) R.g13 (pk_cons (pv 1) pk_nil)))) pss_nil)
      (pss_one (ps_raise rfl (takes_of rfl rfl rfl rfl) (pmk_oexK (R.e 0 (by decide) (by decide)).ox (R.e 0 (by decide) (by decide)).iC R.tI F1 hr kb pass0 (by rfl) R.g0 (pk_cons (pv 1) pk_nil)))))))))))))))), ?_⟩
    refine ⟨_, rfl, rfl, _, rfl, ite2 (fun c => ?_) (fun c1 => ?_)⟩
    · obtain rfl := of_dec2 c
      exact ⟨_, rfl, rfl, fun a na => err_made (R.e 1 (by decide) (by decide)).ox (R.e 1 (by decide) (by decide)).noV na fun d H' s nd hd => k d H' s nd hd⟩
    replace c1 := not_dec2 c1
    refine ⟨_, rfl, rfl, _, rfl, ite2 (fun c => ?_) (fun c2 => ?_)⟩
    · obtain rfl := of_dec2 c
      exact ⟨_, rfl, rfl, fun a na => err_made (R.e 2 (by decide) (by decide)).ox (R.e 2 (by decide) (by decide)).noV na fun d H' s nd hd => k d H' s nd hd⟩
    replace c2 := not_dec2 c2
    refine ⟨_, rfl, rfl, _, rfl, ite2 (fun c => ?_) (fun c3 => ?_)⟩
    · obtain rfl := of_dec2 c
      exact ⟨_, rfl, rfl, fun a na => err_made (R.e 3 (by decide) (by decide)).ox (R.e 3 (by decide) (by decide)).noV na fun d H' s nd hd => k d H' s nd hd⟩
    replace c3 := not_dec2 c3
    refine ⟨_, rfl, rfl, _, rfl, ite2 (fun c => ?_) (fun c4 => ?_)⟩
    · obtain rfl := of_dec2 c
      exact ⟨_, rfl, rfl, fun a na => err_made (R.e 4 (by decide) (by decide)).ox (R.e 4 (by decide) (by decide)).noV na fun d H' s nd hd => k d H' s nd hd⟩
    replace c4 := not_dec2 c4
    refine ⟨_, rfl, rfl, _, rfl, ite2 (fun c => ?_) (fun c5 => ?_)⟩
    · obtain rfl := of_dec2 c
      exact ⟨_, rfl, rfl, fun a na => err_made (R.e 5 (by decide) (by decide)).ox (R.e 5 (by decide) (by decide)).noV na fun d H' s nd hd => k d H' s nd hd⟩
    replace c5 := not_dec2 c5
    refine ⟨_, rfl, rfl, _, rfl, ite2 (fun c => ?_) (fun c6 => ?_)⟩
    · obtain rfl := of_dec2 c
      exact ⟨_, rfl, rfl, fun a na => err_made (R.e 6 (by decide) (by decide)).ox (R.e 6 (by decide) (by decide)).noV na fun d H' s nd hd => k d H' s nd hd⟩
    replace c6 := not_dec2 c6
    refine ⟨_, rfl, rfl, _, rfl, ite2 (fun c => ?_) (fun c7 => ?_)⟩
    · obtain rfl := of_dec2 c
      exact ⟨_, rfl, rfl, fun a na => err_made (R.e 7 (by decide) (by decide)).ox (R.e 7 (by decide) (by decide)).noV na fun d H' s nd hd => k d H' s nd hd⟩
    replace c7 := not_dec2 c7
    refine ⟨_, rfl, rfl, _, rfl, ite2 (fun c => ?_) (fun c8 => ?_)⟩
    · obtain rfl := of_dec2 c
      exact ⟨_, rfl, rfl, fun a na => err_made (R.e 8 (by decide) (by decide)).ox (R.e 8 (by decide) (by decide)).noV na fun d H' s nd hd => k d H' s nd hd⟩
    replace c8 := not_dec2 c8
    refine ⟨_, rfl, rfl, _, rfl, ite2 (fun c => ?_) (fun c9 => ?_)⟩
    · obtain rfl := of_dec2 c
      exact ⟨_, rfl, rfl, fun a na => err_made (R.e 9 (by decide) (by decide)).ox (R.e 9 (by decide) (by decide)).noV na fun d H' s nd hd => k d H' s nd hd⟩
    replace c9 := not_dec2 c9
    refine ⟨_, rfl, rfl, _, rfl, ite2 (fun c => ?_) (fun c10 => ?_)⟩
    · obtain rfl := of_dec2 c
      exact ⟨_, rfl, rfl, fun a na => err_made (R.e 10 (by decide) (by decide)).ox (R.e 10 (by decide) (by decide)).noV na fun d H' s nd hd => k d H' s nd hd⟩
    replace c10 := not_dec2 c10
    refine ⟨_, rfl, rfl, _, rfl, ite2 (fun c => ?_) (fun c11 => ?_)⟩
    · obtain rfl := of_dec2 c
      exact ⟨_, rfl, rfl, fun a na => err_made (R.e 11 (by decide) (by decide)).ox (R.e 11 (by decide) (by decide)).noV na fun d H' s nd hd => k d H' s nd hd⟩
    replace c11 := not_dec2 c11
    refine ⟨_, rfl, rfl, _, rfl, ite2 (fun c => ?_) (fun c12 => ?_)⟩
    · obtain rfl := of_dec2 c
      exact ⟨_, rfl, rfl, fun a na => err_made (R.e 12 (by decide) (by decide)).ox (R.e 12 (by decide) (by decide)).noV na fun d H' s nd hd => k d H' s nd hd⟩
    replace c12 := not_dec2 c12
    refine ⟨_, rfl, rfl, _, rfl, ite2 (fun c => ?_) (fun c13 => ?_)⟩
    · obtain rfl := of_dec2 c
      exact ⟨_, rfl, rfl, fun a na => err_made (R.e 13 (by decide) (by decide)).ox (R.e 13 (by decide) (by decide)).noV na fun d H' s nd hd => k d H' s nd hd⟩
    replace c13 := not_dec2 c13
    obtain rfl : way = 0 := by omega
    exact ⟨_, rfl, rfl, fun a na => err_made (R.e 0 (by decide) (by decide)).ox (R.e 0 (by decide) (by decide)).noV na fun d H' s nd hd => k d H' s nd hd⟩
theorem scRaiseP : FnScope ["way", "thing"] ["way", "thing"] (defScope sRaiseP) := ⟨rfl, rfl, rfl, by decide +kernel, rfl, by decide +kernel, by decide +kernel⟩
theorem ok_raiseP {f fE : Addr} {fd dE : FuncData} {cs : Int → Addr} (F : Fun K "_law_raise_plain" "_law_raise_plain" sRaiseP f fd) (R : Er14 K mg cs fE) (F1 : FnOk P w K mg base CX0 1 fE dE ["self", "value"] (spErr K)) (b1 : Binds K dE ["self", "value"] []) (kb : KBn K dE ["self", "value"] 1 ["value"] gEv gE) :
    FnOk P w K mg base (L2.CX P w) 3 f fd ["way", "thing"] (spRs cs) := by
  refine F.okX scRaiseP (fun vs H Q E h => ?_) (fun cdv A outer s H vs Q E hr h => ?_)
  · obtain ⟨way, v, rfl, _⟩ := h
    rfl
  · obtain ⟨way, v, rfl, w0, w1, k⟩ := h
    refine ⟨_, pss_cons (ps_if (pt_cmpR op_eq (pv 0) pe_int (nomark _)) (pss_one (ps_raise rfl (takes_of rfl rfl rfl rfl) (pmk_oex (R.e 1 (by decide) (by decide)).ox (R.e 1 (by decide) (by decide)).iC R.tI F1 hr b1 .nil pass0 (by rfl) R.g1 (pa_cons (pv 1) pa_nil)))) pss_nil)
      (pss_cons (ps_if (pt_cmpR op_eq (pv 0) pe_int (nomark _)) (pss_one (ps_raise rfl (takes_of rfl rfl rfl rfl) (pmk_oex (R.e 2 (by decide) (by decide)).ox (R.e 2 (by decide) (by decide)).iC R.tI F1 hr b1 .nil pass0 (by rfl) R.g2 (pa_cons (pv 1) pa_nil)))) pss_nil)
      (pss_cons (ps_if (pt_cmpR op_eq (pv 0) pe_int (nomark _)) (pss_one (ps_raise rfl (takes_of rfl rfl rfl rfl) (pmk_oex (R.e 3 (by decide) (by decide)).ox (R.e 3 (by decide) (by decide)).iC R.tI F1 hr b1 .nil pass0 (by rfl) R.g3 (pa_cons (pv 1) pa_nil)))) pss_nil)
      (pss_cons (ps_if (pt_cmpR op_eq (pv 0) pe_int (nomark _)) (pss_one (ps_raise rfl (takes_of rfl rfl rfl rfl) (pmk_oex (R.e 4 (by decide) (by decide)).ox (R.e 4 (by decide) (by decide)).iC R.tI F1 hr b1 .nil pass0 (by rfl) R.g4 (pa_cons (pv 1) pa_nil)))) pss_nil)
      (pss_cons (ps_if (pt_cmpR op_eq (pv 0) pe_int (nomark _)) (pss_one (ps_raise rfl (takes_of rfl rfl rfl rfl) (pmk_oex (R.e 5 (by decide) (by decide)).ox (R.e 5 (by decide) (by decide)).iC R.tI F1 hr b1 .nil pass0 (by rfl) R.g5 (pa_cons (pv 1) pa_nil)))) pss_nil)
      (pss_cons (ps_if (pt_cmpR op_eq (pv 0) pe_int (nomark _)) (pss_one (ps_raise rfl (takes_of rfl rfl rfl rfl) (pmk_oex (R.e 6 (by decide) (by decide)).ox (R.e 6 (by decide) (by decide)).iC R.tI F1 hr b1 .nil pass0 (by rfl) R.g6 (pa_cons (pv 1) pa_nil)))) pss_nil)
      (pss_cons (ps_if (pt_cmpR op_eq (pv 0) pe_int (nomark _)) (pss_one (ps_raise rfl (takes_of rfl rfl rfl rfl) (pmk_oex (R.e 7 (by decide) (by decide)).ox (R.e 7 (by decide) (by decide)).iC R.tI F1 hr b1 .nil pass0 (by rfl) R.g7 (pa_cons (pv 1) pa_nil)))) pss_nil)
      (pss_cons (ps_if (pt_cmpR op_eq (pv 0) pe_int (nomark _)) (pss_one (ps_raise rfl (takes_of rfl rfl rfl rfl) (pmk_oex (R.e 8 (by decide) (by decide)).ox (R.e 8 (by decide) (by decide)).iC R.tI F1 hr b1 .nil pass0 (by rfl) R.g8 (pa_cons (pv 1) pa_nil)))) pss_nil)
      (pss_cons (ps_if (pt_cmpR op_eq (pv 0) pe_int (nomark _)) (pss_one (ps_raise rfl (takes_of rfl rfl rfl rfl) (pmk_oex (R.e 9 (by decide) (by decide)).ox (R.e 9 (by decide) (by decide)).iC R.tI F1 hr b1 .nil pass0 (by rfl) R.g9 (pa_cons (pv 1) pa_nil)))) pss_nil)
      (pss_cons (ps_if (pt_cmpR op_eq (pv 0) pe_int (nomark _)) (pss_one (ps_raise rfl (takes_of rfl rfl rfl rfl) (pmk_oex (R.e 10 (by decide) (by decide)).ox (R.e 10 (by decide) (by decide)).iC R.tI F1 hr b1 .nil pass0 (by rfl) R.g10 (pa_cons (pv 1) pa_nil)))) pss_nil)
      (pss_cons (ps_if (pt_cmpR op_eq (pv 0) pe_int (nomark _)) (pss_one (ps_raise rfl (takes_of rfl rfl rfl rfl) (pmk_oex (R.e 11 (by decide) (by decide)).ox (R.e 11 (by decide) (by decide)).iC R.tI F1 hr b1 .nil pass0 (by rfl) R.g11 (pa_cons (pv 1) pa_nil)))) pss_nil)
      (pss_cons (ps_if (pt_cmpR op_eq (pv 0) pe_int (nomark _)) (pss_one (ps_raise rfl (takes_of rfl rfl rfl rfl) (pmk_oex (R.e 12 (by decide) (by decide)).ox (R.e 12 (by decide) (by decide)).iC R.tI F1 hr b1 .nil pass0 (by rfl) R.g12 (pa_cons (pv 1) pa_nil)))) pss_nil)
      (pss_cons (ps_if (pt_cmpR op_eq (pv 0) pe_int (nomark _)) (pss_one (ps_raise rfl (takes_of rfl rfl rfl rfl) (pmk_oex (R.e 13 (by decide) (by decide)).ox (R.e 13 (by decide) (by decide)).iC R.tI F1 hr b1 .nil pass0 (by rfl) R.g13 (pa_cons (pv 1) pa_nil)))) pss_nil)
      (pss_one (ps_raise rfl (takes_of rfl rfl rfl rfl) (pmk_oex (R.e 0 (by decide) (by decide)).ox (R.e 0 (by decide) (by decide)).iC R.tI F1 hr b1 .nil pass0 (by rfl) R.g0 (pa_cons (pv 1) pa_nil)))))))))))))))), ?_⟩
    refine ⟨_, rfl, rfl, _, rfl, ite2 (fun c => ?_) (fun c1 => ?_)⟩
    · obtain rfl := of_dec2 c
      exact ⟨_, rfl, (by show 1 ≤ 1000; decide), fun a na => err_made (R.e 1 (by decide) (by decide)).ox (R.e 1 (by decide) (by decide)).noV na fun d H' s nd hd => k d H' s nd hd⟩
    replace c1 := not_dec2 c1
    refine ⟨_, rfl, rfl, _, rfl, ite2 (fun c => ?_) (fun c2 => ?_)⟩
    · obtain rfl := of_dec2 c
      exact ⟨_, rfl, (by show 1 ≤ 1000; decide), fun a na => err_made (R.e 2 (by decide) (by decide)).ox (R.e 2 (by decide) (by decide)).noV na fun d H' s nd hd => k d H' s nd hd⟩
    replace c2 := not_dec2 c2
    refine ⟨_, rfl, rfl, _, rfl, ite2 (fun c => ?_) (fun c3 => ?_)⟩
    · obtain rfl := of_dec2 c
      exact ⟨_, rfl, (by show 1 ≤ 1000; decide), fun a na => err_made (R.e 3 (by decide) (by decide)).ox (R.e 3 (by decide) (by decide)).noV na fun d H' s nd hd => k d H' s nd hd⟩
    replace c3 := not_dec2 c3
    refine ⟨_, rfl, rfl, _, rfl, ite2 (fun c => ?_) (fun c4 => ?_)⟩
    · obtain rfl := of_dec2 c
      exact ⟨_, rfl, (by show 1 ≤ 1000; decide), fun a na => err_made (R.e 4 (by decide) (by decide)).ox (R.e 4 (by decide) (by decide)).noV na fun d H' s nd hd => k d H' s nd hd⟩
    replace c4 := not_dec2 c4
    refine ⟨_, rfl, rfl, _, rfl, ite2 (fun c => ?_) (fun c5 => ?_)⟩
    · obtain rfl := of_dec2 c
      exact ⟨_, rfl, (by show 1 ≤ 1000; decide), fun a na => err_made (R.e 5 (by decide) (by decide)).ox (R.e 5 (by decide) (by decide)).noV na fun d H' s nd hd => k d H' s nd hd⟩
    replace c5 := not_dec2 c5
    refine ⟨_, rfl, rfl, _, rfl, ite2 (fun c => ?_) (fun c6 => ?_)⟩
    · obtain rfl := of_dec2 c
      exact ⟨_, rfl, (by show 1 ≤ 1000; decide), fun a na => err_made (R.e 6 (by decide) (by decide)).ox (R.e 6 (by decide) (by decide)).noV na fun d H' s nd hd => k d H' s nd hd⟩
    replace c6 := not_dec2 c6
    refine ⟨_, rfl, rfl, _, rfl, ite2 (fun c => ?_) (fun c7 => ?_)⟩
    · obtain rfl := of_dec2 c
      exact ⟨_, rfl, (by show 1 ≤ 1000; decide), fun a na => err_made (R.e 7 (by decide) (by decide)).ox (R.e 7 (by decide) (by decide)).noV na fun d H' s nd hd => k d H' s nd hd⟩
    replace c7 := not_dec2 c7
    refine ⟨_, rfl, rfl, _, rfl, ite2 (fun c => ?_) (fun c8 => ?_)⟩
    · obtain rfl := of_dec2 c
      exact ⟨_, rfl, (by show 1 ≤ 1000; decide), fun a na => err_made (R.e 8 (by decide) (by decide)).ox (R.e 8 (by decide) (by decide)).noV na fun d H' s nd hd => k d H' s nd hd⟩
    replace c8 := not_dec2 c8
    refine ⟨_, rfl, rfl, _, rfl, ite2 (fun c => ?_) (fun c9 => ?_)⟩
    · obtain rfl := of_dec2 c
      exact ⟨_, rfl, (by show 1 ≤ 1000; decide), fun a na => err_made (R.e 9 (by decide) (by decide)).ox (R.e 9 (by decide) (by decide)).noV na fun d H' s nd hd => k d H' s nd hd⟩
    replace c9 := not_dec2 c9
    refine ⟨_, rfl, rfl, _, rfl, ite2 (fun c => ?_) (fun c10 => ?_)⟩
    · obtain rfl := of_dec2 c
      exact ⟨_, rfl, (by show 1 ≤ 1000; decide), fun a na => err_made (R.e 10 (by decide) (by decide)).ox (R.e 10 (by decide) (by decide)).noV na fun d H' s nd hd => k d H' s nd hd⟩
    replace c10 := not_dec2 c10
    refine ⟨_, rfl, rfl, _, rfl, ite2 (fun c => ?_) (fun c11 => ?_)⟩
    · obtain rfl := of_dec2 c
      exact ⟨_, rfl, (by show 1 ≤ 1000; decide), fun a na => err_made (R.e 11 (by decide) (by decide)).ox (R.e 11 (by decide) (by decide)).noV na fun d H' s nd hd => k d H' s nd hd⟩
    replace c11 := not_dec2 c11
    refine ⟨_, rfl, rfl, _, rfl, ite2 (fun c => ?_) (fun c12 => ?_)⟩
    · obtain rfl := of_dec2 c
      exact ⟨_, rfl, (by show 1 ≤ 1000; decide), fun a na => err_made (R.e 12 (by decide) (by decide)).ox (R.e 12 (by decide) (by decide)).noV na fun d H' s nd hd => k d H' s nd hd⟩
    replace c12 := not_dec2 c12
    refine ⟨_, rfl, rfl, _, rfl, ite2 (fun c => ?_) (fun c13 => ?_)⟩
    · obtain rfl := of_dec2 c
      exact ⟨_, rfl, (by show 1 ≤ 1000; decide), fun a na => err_made (R.e 13 (by decide) (by decide)).ox (R.e 13 (by decide) (by decide)).noV na fun d H' s nd hd => k d H' s nd hd⟩
    replace c13 := not_dec2 c13
    obtain rfl : way = 0 := by omega
    exact ⟨_, rfl, (by show 1 ≤ 1000; decide), fun a na => err_made (R.e 0 (by decide) (by decide)).ox (R.e 0 (by decide) (by decide)).noV na fun d H' s nd hd => k d H' s nd hd⟩
end
def fl14 (way : Int) : List Bool := [decide ((1 : Int) = way), decide ((2 : Int) = way), decide ((3 : Int) = way), decide ((4 : Int) = way), decide ((5 : Int) = way), decide ((6 : Int) = way), decide ((7 : Int) = way), decide ((8 : Int) = way), decide ((9 : Int) = way), decide ((10 : Int) = way), decide ((11 : Int) = way), decide ((12 : Int) = way), decide ((13 : Int) = way), true]
def spCaught (cs : Int → Addr) : Sp := fun vs H Q _ => ∃ (nm way : Int) (v : V), vs = [.int nm, .int way, v] ∧ 0 ≤ way ∧ way ≤ 13 ∧ ∀ (q1 q2 : Addr) (H' : Hp), Same H H' → H q2 = none → H' q2 = some (.lst [.ref q1, v]) → H' q1 = some (.lst ((fl14 way).map V.bl)) → Q (.ref q2) H'
section
variable {P : Program} {w : World} {K : PySem.W.Frag} {mg : Str → Option Value} {base : Heap}
theorem scCaught : FnScope ["named", "way", "thing", "found", "e"] ["named", "way", "thing"] (defScope sCaught) := ⟨rfl, rfl, rfl, by decide +kernel, rfl, by decide +kernel, by decide +kernel⟩
theorem ok_caught {f fE fR fP : Addr} {fd dR dP : FuncData} {cs : Int → Addr} (F : Fun K "_law_caught" "_law_caught" sCaught f fd) (R : Er14 K mg cs fE) (isi : mg "isinstance" = none) (nV : mg "ValueError" = none)
    (Ra : AtX P w K mg base 3 "_law_raise" ["way", "thing"] (spRs cs) fR dR) (Rp : AtX P w K mg base 3 "_law_raise_plain" ["way", "thing"] (spRs cs) fP dP) : FnOk P w K mg base CX0 4 f fd ["named", "way", "thing"] (spCaught cs) := by
  refine F.ok scCaught (fun vs H Q E h => ?_) (fun cdv A outer s H vs Q E hr h => ?_)
  · obtain ⟨nm, way, v, rfl, _⟩ := h
    rfl
  · obtain ⟨nm, way, v, rfl, w0, w1, k⟩ := h
    refine ⟨_, pss_cons (ps_set (i := 3) scCaught.nd rfl (.inl rfl) pe_non)
      (pss_cons (ps_try_as (i := 4) (Wout := fun _ _ _ _ => False) rfl rfl scCaught.nd rfl rfl ⟨rfl, by decide, .inl R.g0⟩ takes0
        (fun W pn xe tk _ => pss_one (ps_if (pt_cmpR op_eq (pv 0) pe_int (nomark _))
          (pss_one (ps_expr (pe_callS Ra.ok hr (by rfl) Ra.at_ Ra.kp Ra.bi (fun σ => passAt tk σ) (pa_cons (pv 1) (pa_cons (pv 2) pa_nil)))))
          (pss_one (ps_expr (pe_callS Rp.ok hr (by rfl) Rp.at_ Rp.kp Rp.bi (fun σ => passAt tk σ) (pa_cons (pv 1) (pa_cons (pv 2) pa_nil)))))))
        (fun a oe cls d pn hz hf => pss_one (ps_set (i := 3) scCaught.nd rfl (.inl rfl) (pe_lst (pa_cons (pe_lst (pa_cons (pe_callB (call_isX hz hf) (by rfl) isi (by decide +kernel) (pa_cons (pv 4) (pa_cons (C8.pe_gc (v := .ref (cs 1)) (by rfl) ⟨_, R.g1, rfl⟩) pa_nil)))
            (pa_cons (pe_callB (call_isX hz hf) (by rfl) isi (by decide +kernel) (pa_cons (pv 4) (pa_cons (C8.pe_gc (v := .ref (cs 2)) (by rfl) ⟨_, R.g2, rfl⟩) pa_nil)))
            (pa_cons (pe_callB (call_isX hz hf) (by rfl) isi (by decide +kernel) (pa_cons (pv 4) (pa_cons (C8.pe_gc (v := .ref (cs 3)) (by rfl) ⟨_, R.g3, rfl⟩) pa_nil)))
            (pa_cons (pe_callB (call_isX hz hf) (by rfl) isi (by decide +kernel) (pa_cons (pv 4) (pa_cons (C8.pe_gc (v := .ref (cs 4)) (by rfl) ⟨_, R.g4, rfl⟩) pa_nil)))
            (pa_cons (pe_callB (call_isX hz hf) (by rfl) isi (by decide +kernel) (pa_cons (pv 4) (pa_cons (C8.pe_gc (v := .ref (cs 5)) (by rfl) ⟨_, R.g5, rfl⟩) pa_nil)))
            (pa_cons (pe_callB (call_isX hz hf) (by rfl) isi (by decide +kernel) (pa_cons (pv 4) (pa_cons (C8.pe_gc (v := .ref (cs 6)) (by rfl) ⟨_, R.g6, rfl⟩) pa_nil)))
            (pa_cons (pe_callB (call_isX hz hf) (by rfl) isi (by decide +kernel) (pa_cons (pv 4) (pa_cons (C8.pe_gc (v := .ref (cs 7)) (by rfl) ⟨_, R.g7, rfl⟩) pa_nil)))
            (pa_cons (pe_callB (call_isX hz hf) (by rfl) isi (by decide +kernel) (pa_cons (pv 4) (pa_cons (C8.pe_gc (v := .ref (cs 8)) (by rfl) ⟨_, R.g8, rfl⟩) pa_nil)))
            (pa_cons (pe_callB (call_isX hz hf) (by rfl) isi (by decide +kernel) (pa_cons (pv 4) (pa_cons (C8.pe_gc (v := .ref (cs 9)) (by rfl) ⟨_, R.g9, rfl⟩) pa_nil)))
            (pa_cons (pe_callB (call_isX hz hf) (by rfl) isi (by decide +kernel) (pa_cons (pv 4) (pa_cons (C8.pe_gc (v := .ref (cs 10)) (by rfl) ⟨_, R.g10, rfl⟩) pa_nil)))
            (pa_cons (pe_callB (call_isX hz hf) (by rfl) isi (by decide +kernel) (pa_cons (pv 4) (pa_cons (C8.pe_gc (v := .ref (cs 11)) (by rfl) ⟨_, R.g11, rfl⟩) pa_nil)))
            (pa_cons (pe_callB (call_isX hz hf) (by rfl) isi (by decide +kernel) (pa_cons (pv 4) (pa_cons (C8.pe_gc (v := .ref (cs 12)) (by rfl) ⟨_, R.g12, rfl⟩) pa_nil)))
            (pa_cons (pe_callB (call_isX hz hf) (by rfl) isi (by decide +kernel) (pa_cons (pv 4) (pa_cons (C8.pe_gc (v := .ref (cs 13)) (by rfl) ⟨_, R.g13, rfl⟩) pa_nil)))
            (pa_cons (pe_callB (call_isX hz hf) (by rfl) isi (by decide +kernel) (pa_cons (pv 4) (pa_cons (pe_bltn (v := .ty "ValueError") (u := .type "ValueError") (by rfl) nV (by decide +kernel) rfl) pa_nil)))
            pa_nil)))))))))))))))
          (pa_cons (pe_val hz hf (pv 4)) pa_nil))))))
      (pss_one (ps_ret (pv 3)))), ?_⟩
    obtain ⟨e1, e2, e3, e4, e5, e6, e7, e8, e9, e10, e11, e12, e13, e14, e15⟩ := R.kit way w0 w1
    have eC := R.e way w0 w1
    refine ⟨_, rfl, rfl, _, rfl, ite2 (fun c => ?_) (fun c => ?_)⟩
    all_goals
      refine ⟨_, rfl, _, rfl, ⟨way, v, rfl, w0, w1, fun dd H' s nd hd => ?_⟩⟩
      refine ⟨true, e15, fun _ ea na => ?_, fun z => Bool.noConfusion z⟩
      have held : HeldE K (.ref (cs way)) (some dd) v (cs way) fE H' := ⟨rfl, eC, dd, rfl, hd⟩
      refine ⟨_, rfl, _, fE, _, .ref (cs 1), _, _, rfl, held, fun u h => h, e1, _, rfl, _, fE, _, .ref (cs 2), _, _, rfl, held, fun u h => h, e2, _, rfl, _, fE, _, .ref (cs 3), _, _, rfl, held, fun u h => h, e3, _, rfl, _, fE, _, .ref (cs 4), _, _, rfl, held, fun u h => h, e4, _, rfl, _, fE, _, .ref (cs 5), _, _, rfl, held, fun u h => h, e5, _, rfl, _, fE, _, .ref (cs 6), _, _, rfl, held, fun u h => h, e6, _, rfl, _, fE, _, .ref (cs 7), _, _, rfl, held, fun u h => h, e7, _, rfl, _, fE, _, .ref (cs 8), _, _, rfl, held, fun u h => h, e8, _, rfl, _, fE, _, .ref (cs 9), _, _, rfl, held, fun u h => h, e9, _, rfl, _, fE, _, .ref (cs 10), _, _, rfl, held, fun u h => h, e10, _, rfl, _, fE, _, .ref (cs 11), _, _, rfl, held, fun u h => h, e11, _, rfl, _, fE, _, .ref (cs 12), _, _, rfl, held, fun u h => h, e12, _, rfl, _, fE, _, .ref (cs 13), _, _, rfl, held, fun u h => h, e13, _, rfl, _, fE, _, .ty "ValueError", _, _, rfl, held, fun u h => h, e14, ?_⟩
      refine ⟨(by show 14 ≤ sizeLine; decide), fun g1 m1 => ?_⟩
      have t1 := same_new (o := .lst ((fl14 way).map V.bl)) m1
      have held2 : HeldE K (.ref (cs way)) (some dd) v (cs way) fE (upd H' g1 (.lst ((fl14 way).map V.bl))) := ⟨rfl, eC, dd, rfl, t1 _ _ hd⟩
      refine ⟨_, rfl, rfl, _, fE, _, held2, (by show 2 ≤ sizeLine; decide), fun g2 m2 => ?_⟩
      have t2 := same_new (o := .lst [.ref g1, v]) m2
      exact ⟨_, rfl, k g1 g2 _ (s.trans (t1.trans t2)) (s.free (t1.free m2)) upd_same (t2 _ _ upd_same)⟩
end

theorem dpAll_bools {K : PySem.W.Frag} {H : Hp} : ∀ bs : List Bool, DpAll K H (bs.map V.bl) (bs.map PyData.bool)
  | [] => .nil
  | b :: bs => .cons (.bl b) (dpAll_bools bs)
theorem Fr.put {p q : Addr} {o : HO} {H J : Hp} (h : H q = none) (f : Fr p H J) : Fr p H (upd J q o) := fun b u e g => by
  rw [upd_ne (fun z => by rw [z, h] at e; cases e)]
  exact f b u e g
theorem free_of {p c : Addr} {n : Nat} {H J : Hp} (f : Fr p H J) (wl : Well J p n) (e : J c = none) : H c = none ∧ c ≠ p := by
  have g := (wl.ne e).symm
  refine ⟨?_, g⟩
  cases e2 : H c with
  | none => rfl
  | some o =>
    rw [f c o e2 g] at e
    cases e
theorem Rp.str {x : Str} {n : Nat} (h : ∀ c ∈ x.cps.toList, c < 16 ^ 8) (l : x.length ≤ n) : Rp (.str x) n 0 := by
  refine ⟨?_, rfl, rfl, Nat.le_refl _, l⟩
  show (x.cps.toList.all fun c => decide (c < 16 ^ 8)) = true
  rw [List.all_eq_true]
  intro c hc
  exact decide_eq_true (h c hc)
theorem str_low (s : String) : ∀ c ∈ (Str.ofString s).cps.toList, c < 16 ^ 8 := by
  intro c hc
  rw [Str.ofString_eq_toList] at hc
  obtain ⟨k, _, rfl⟩ := List.mem_map.mp (by simpa using hc)
  have := k.val.toNat_lt
  exact Nat.lt_of_lt_of_le this (by decide)
theorem rp_text {i : Int} (h0 : -10 ^ 40 < i) (h1 : i < 10 ^ 40) : Rp (.str (Str.ofString "a" ++ Str.ofString (toString i))) 100 0 := by
  have h : i.natAbs < 10 ^ 40 := by omega
  have e := int_text_length_le10 (k := 40) (by decide) h
  refine Rp.str (fun c hc => ?_) ?_
  · rw [PySem.Str.cps_append, Array.toList_append, List.mem_append] at hc
    rcases hc with g | g
    · exact str_low "a" c g
    · exact str_low _ c g
  · rw [PySem.Str.length_append, PySem.ofString_length, PySem.ofString_length]
    have : ("a" : String).length = 1 := by decide
    omega
/-- the value that is told: what stands for it, and the text of it that comes -/
def Thing (K : PySem.W.Frag) (H : Hp) (kind sh : Int) (v : V) : Prop := (kind ≠ 5 ∧ ∃ d, Rp d 200 5 ∧ ∀ J, Same H J → Dp K J v d) ∨ (kind = 5 ∧ ∃ l, v = .ref l ∧ H l = some (.lst [.int sh]))
section
variable {P : Program} {w : World} {K : PySem.W.Frag} {mg : Str → Option Value} {base : Heap}
theorem scFits : FnScope ["well", "way", "kind", "shift", "thing", "told", "want", "spot"] ["well"] (defScope sFits) := ⟨rfl, rfl, rfl, by decide +kernel, rfl, by decide +kernel, by decide +kernel⟩
theorem ok_fits {f fT fU fC : Addr} {fd dT dU dC : FuncData} {cs : Int → Addr} (F : Fun K "_law_fits" "_law_fits" sFits f fd) (T : Blt mg) (nS : mg "str" = none) (L : Tk P w K mg base fT dT) (B : Nb P w K mg base fU dU)
    (Ca : At P w K mg base 4 "_law_caught" ["named", "way", "thing"] (spCaught cs) fC dC) : FnG P w K mg base 5 f fd ["well"] spFits := by
  refine okG F scFits (fun vs H Q E h => ?_) (fun cdv A outer s H vs Q E hgd hr h => ?_)
  · obtain ⟨p, n, rfl, _⟩ := h
    rfl
  · obtain ⟨p, n, rfl, hW, hn, k⟩ := h
    have hr1 : Room 1 _ := hr.mono (by decide)
    have hr2 : Room 2 _ := hr.mono (by decide)
    have hr4 : Room 4 _ := hr.mono (by decide)
    have hu := hr.units
    refine ⟨_, pss_cons (ps_asg (pe_tup (pa_cons (pe_call L.ok hr1 (by rfl) L.at_ L.kp L.bi .nil pass0 (pa_cons (pv 0) (pa_cons pe_int pa_nil))) (pa_cons (pe_call L.ok hr1 (by rfl) L.at_ L.kp L.bi .nil pass0 (pa_cons (pv 0) (pa_cons pe_int pa_nil))) (pa_cons (pe_call B.ok hr2 (by rfl) B.at_ B.kp B.bi .nil pass0 (pa_cons (pv 0) pa_nil)) pa_nil)))) (pg_tup rfl (pgs_cons (pg_name (i := 1) scFits.nd rfl (.inr rfl)) (pgs_cons (pg_name (i := 2) scFits.nd rfl (.inl rfl)) (pgs_cons (pg_name (i := 3) scFits.nd rfl (.inl rfl)) pgs_nil)))))
      (pss_cons (ps_set (i := 4) scFits.nd rfl (.inl rfl) (pe_ix ix_list (pe_lst (pa_cons (pv 3) (pa_cons (pe_op op_add_str pe_str (pe_callTy call_str_int (by rfl) nS (by decide +kernel) (pa_cons (pv 3) pa_nil))) (pa_cons pe_bl (pa_cons pe_non (pa_cons (pe_tup (pa_cons (pv 3) (pa_cons pe_str pa_nil))) (pa_cons (pe_lst (pa_cons (pv 3) pa_nil)) pa_nil))))))) (pv 2) (fun _ _ => rfl)))
      (pss_cons (ps_set (i := 5) scFits.nd rfl (.inl rfl) (pe_lst (pa_cons (pe_call Ca.ok hr4 (by rfl) Ca.at_ Ca.kp Ca.bi .nil pass0 (pa_cons pe_int (pa_cons (pv 1) (pa_cons (pv 4) pa_nil)))) (pa_cons (pe_call Ca.ok hr4 (by rfl) Ca.at_ Ca.kp Ca.bi .nil pass0 (pa_cons pe_int (pa_cons (pv 1) (pa_cons (pv 4) pa_nil)))) pa_nil))))
      (C8.pss_cut (ps_if (pt_cmpR op_eq (pv 2) pe_int (nomark _))
        (pss_one (ps_expr (pe_bm PySem.F.plainAttrs_list PySem.F.slot_list_append PySem.F.type_list_append mt_append (pv 4) (pa_cons (pv 3) pa_nil))))
        pss_nil)
      (pss_cons (ps_set (i := 6) scFits.nd rfl (.inl rfl) (pe_lst (pa_cons (pe_op op_cat (pe_lc (own := [("spot", 7)]) (g := gName 7) (tt := tYes) rfl scFits.nd (pi_range2 (by rfl) T.range (pa_cons pe_int (pa_cons pe_int pa_nil)))
          (blkOk_by (N := ["well", "way", "kind", "shift", "thing", "told", "want", "spot"]) (sc := defScope sFits) (by decide +kernel)) (fun _ _ _ _ _ => pg_name (i := 7) scFits.nd rfl (.inl rfl)) (fun _ _ _ _ _ => pts_nil)
          (fun _ _ _ _ _ => (pe_cmpR op_eq (pv 7) (pv 1) (nomark _)))) (pe_lst (pa_cons pe_bl pa_nil))) (pa_cons (pv 4) pa_nil))))
      (pss_one (ps_ret (pe_cmpR op_eq (pe_callB (call_rep2 hgd hu) (by rfl) T.repr (by decide +kernel) (pa_cons (pv 5) pa_nil)) (pe_callB (call_rep2 hgd hu) (by rfl) T.repr (by decide +kernel) (pa_cons (pe_lst (pa_cons (pv 6) (pa_cons (pv 6) pa_nil))) pa_nil)) (nomark _)))))))), ?_⟩
    refine ⟨_, rfl, ⟨_, _, _, rfl, hW, (by omega), (by decide), (by decide), fun way H1 v0 v1 f1 w1 => ?_⟩⟩
    refine ⟨_, rfl, ⟨_, _, _, rfl, w1, (by omega), (by decide), (by decide), fun kind H2 k0 k1 f2 w2 => ?_⟩⟩
    refine ⟨_, rfl, ⟨_, _, rfl, w2, by omega, fun sh H3 a1 a2 f3 w3 => ?_⟩⟩
    refine ⟨(by show 3 ≤ sizeLine; decide), fun t0 nt0 => ⟨t0, _, rfl, .inl (.inl upd_same), rfl, _, _, rfl, _, _, rfl, _, [], rfl, rfl, ?_⟩⟩
    have w4 := w3.new (o := .tup [.int way, .int kind, .int sh]) nt0
    have f4 : Fr p H _ := ((f1.trans f2).trans f3).trans (Fr.new (o := .tup [.int way, .int kind, .int sh]) nt0)
    generalize upd H3 t0 (.tup [.int way, .int kind, .int sh]) = H4 at w4 f4
    have tlen := int_text_length_le10 (k := 40) (by decide) (show sh.natAbs < 10 ^ 40 by omega)
    have lg : sh.natAbs.log2 < 1920 := by
      by_cases z : sh.natAbs = 0
      · rw [z]
        decide
      · have : sh.natAbs < 2 ^ 1920 := Nat.lt_trans (show sh.natAbs < 10 ^ 40 by omega) (by decide)
        exact (Nat.log2_lt z).mpr this
    -- the thing
    refine ⟨_, rfl, _, rfl, _, rfl, lg, _, _, rfl, rfl, ?_, _, rfl, (by show 2 ≤ sizeLine; decide), fun u nu => ⟨_, rfl, (by show 1 ≤ sizeLine; decide), fun l nl => ⟨(by show 6 ≤ sizeLine; decide), fun q nq => ?_⟩⟩⟩
    · rw [PySem.ofString_length, PySem.ofString_length, sizeLine_eq]
      have : ("a" : String).length = 1 := by decide
      omega
    have e1 := same_new (o := .tup [.int sh, .str "x"]) nu
    have e2 := same_new (o := .lst [.int sh]) nl
    have e3 := same_new (o := .lst [.int sh, .str (Str.ofString "a" ++ Str.ofString (toString sh)), .bl true, .non, .ref u, .ref l]) nq
    have hq := upd_same (H := upd (upd H4 u (.tup [.int sh, .str "x"])) l (.lst [.int sh])) (a := q) (o := .lst [.int sh, .str (Str.ofString "a" ++ Str.ofString (toString sh)), .bl true, .non, .ref u, .ref l])
    have s45 := (e1.trans e2).trans e3
    have hu5 := (e2.trans e3) _ _ (upd_same (H := H4) (a := u) (o := .tup [.int sh, .str "x"]))
    have hl5 := e3 _ _ (upd_same (H := upd H4 u (.tup [.int sh, .str "x"])) (a := l) (o := .lst [.int sh]))
    have lp : l ≠ p := ((w4.same e1).ne nl).symm
    have lH : H4 l = none := e1.free nl
    generalize upd (upd (upd H4 u (.tup [.int sh, .str "x"])) l (.lst [.int sh])) q (.lst [.int sh, .str (Str.ofString "a" ++ Str.ofString (toString sh)), .bl true, .non, .ref u, .ref l]) = H5 at hq s45 hu5 hl5
    obtain ⟨v, hv, th, vl⟩ : ∃ v, atI [V.int sh, .str (Str.ofString "a" ++ Str.ofString (toString sh)), .bl true, .non, .ref u, .ref l] kind = some v ∧ Thing K H5 kind sh v ∧ (kind = 5 → v = .ref l) := by
      have rI : Rp (.int sh) 0 0 := Rp.int (by omega) (by omega)
      rcases (show kind = 0 ∨ kind = 1 ∨ kind = 2 ∨ kind = 3 ∨ kind = 4 ∨ kind = 5 by omega) with rfl | rfl | rfl | rfl | rfl | rfl
      · exact ⟨_, rfl, .inl ⟨by decide, _, rI.mono (by omega) (by omega), fun J _ => .int _⟩, fun z => absurd z (by decide)⟩
      · exact ⟨_, rfl, .inl ⟨by decide, _, (rp_text (by omega) (by omega)).mono (by omega) (by omega), fun J _ => .str _⟩, fun z => absurd z (by decide)⟩
      · exact ⟨_, rfl, .inl ⟨by decide, _, (Rp.bool true).mono (by omega) (by omega), fun J _ => .bl _⟩, fun z => absurd z (by decide)⟩
      · exact ⟨_, rfl, .inl ⟨by decide, _, Rp.none.mono (by omega) (by omega), fun J _ => .non⟩, fun z => absurd z (by decide)⟩
      · exact ⟨_, rfl, .inl ⟨by decide, _, (Rp.tup (.cons rI (.cons (Rp.str (n := 1) (str_low "x") (by rw [PySem.ofString_length]; decide)) .nil))).mono (by omega) (by omega), fun J s => .tup (SqT.of (s _ _ hu5)) (.cons (.int _) (.cons (.str _) .nil))⟩, fun z => absurd z (by decide)⟩
      · exact ⟨_, rfl, .inr ⟨rfl, l, rfl, hl5⟩, fun _ => rfl⟩
    refine ⟨_, rfl, q, _, kind, v, rfl, rfl, SqL.of hq, hv, ?_⟩
    -- told
    refine ⟨_, rfl, _, rfl, ⟨0, way, v, rfl, v0, by omega, fun qa1 qa Ha sa na ha ha1 => ?_⟩⟩
    refine ⟨_, rfl, _, rfl, ⟨1, way, v, rfl, v0, by omega, fun qb1 qb Hb sb nb hb hb1 => ⟨(by show 2 ≤ sizeLine; decide), fun q2 nq2 => ?_⟩⟩⟩
    have e4 := same_new (o := .lst [.ref qa, .ref qb]) nq2
    have hT := upd_same (H := Hb) (a := q2) (o := .lst [.ref qa, .ref qb])
    have sc := sb.trans e4
    replace ha := sc _ _ ha
    replace ha1 := sc _ _ ha1
    replace hb := e4 _ _ hb
    replace hb1 := e4 _ _ hb1
    have s5c := sa.trans sc
    generalize upd Hb q2 (.lst [.ref qa, .ref qb]) = H6 at hT ha ha1 hb hb1 s5c
    have s46 := s45.trans s5c
    have f6 : Fr p H H6 := f4.trans (Fr.of s46)
    have w6 := w4.same s46
    refine ⟨fun σ J => σ = [some (.ref p), some (.int way), some (.int kind), some (.int sh), some v, some (.ref q2), none, none] ∧ J q2 = some (.lst [.ref qa, .ref qb]) ∧ J qa = some (.lst [.ref qa1, v]) ∧ J qb = some (.lst [.ref qb1, v]) ∧
      J qa1 = some (.lst ((fl14 way).map V.bl)) ∧ J qb1 = some (.lst ((fl14 way).map V.bl)) ∧ (∃ d, Rp d 200 5 ∧ ∀ J', Same J J' → Dp K J' v d) ∧ Fr p H J ∧ Well J p (n + 90), ?_, ?_⟩
    · refine ⟨_, rfl, rfl, _, rfl, ite2 (fun c => ?_) (fun c => ?_)⟩
      · obtain rfl := of_dec2 c
        obtain rfl := vl rfl
        have hl6 := s5c _ _ hl5
        refine ⟨_, rfl, .inl ⟨rfl, _, SqL.of hl6⟩, _, rfl, l, _, .int sh, rfl, rfl, hl6, small1000 (by show 1 ≤ 1000; decide), ?_⟩
        have other : ∀ {a : Addr} {xs : List V}, H6 a = some (.lst xs) → xs ≠ [.int sh] → (upd H6 l (.lst ([.int sh] ++ [.int sh]))) a = some (.lst xs) := fun {a xs} e ne => by
          rw [upd_ne (fun z => by
            rw [z, hl6] at e
            have := Option.some.inj e
            injection this with this
            exact ne this.symm)]
          exact e
        have fne : ((fl14 way).map V.bl) ≠ [V.int sh] := fun z => by
          have := congrArg List.length z
          rw [List.length_map] at this
          exact absurd this (by show (14 : Nat) ≠ 1; decide)
        refine ⟨rfl, other hT (fun z => by injection z with z _; cases z), other ha (fun z => by injection z with z _; cases z), other hb (fun z => by injection z with z _; cases z), other ha1 fne, other hb1 fne, ?_, Fr.put (by exact (free_of (Fr.refl p H) hW (by exact (free_of f4 w4 lH).1)).1) f6, (w6.upd_ne lp.symm).mono (by omega)⟩
        have rI : Rp (.int sh) 0 0 := Rp.int (by omega) (by omega)
        exact ⟨_, (Rp.list (.cons rI (.cons rI .nil))).mono (by omega) (by omega), fun J' s' => .lst (SqL.of (s' _ _ upd_same)) (.cons (.int _) (.cons (.int _) .nil))⟩
      · have ne := not_dec2 c
        rcases th with ⟨_, d, rd, dp⟩ | ⟨e, _⟩
        · exact ⟨rfl, hT, ha, hb, ha1, hb1, ⟨d, rd, fun J' s' => dp J' (s5c.trans s')⟩, f6, w6.mono (by omega)⟩
        · exact absurd e ne
    rintro σ H7 ⟨rfl, hT, ha, hb, ha1, hb1, ⟨d, rd, dp⟩, f7, w7⟩
    -- want
    refine ⟨1, 14, rfl, ⟨by decide, by decide, by decide, by decide⟩, fun D hD => lc_range (lo := 1) (n := 13) (fun i J => J D = some (.lst (((fl14 way).take i).map V.bl)) ∧ Same H7 J) ⟨upd_same, same_new hD⟩ ?_ ?_⟩
    · rintro i J hi ⟨hJ, sJ⟩
      refine ⟨rfl, _, rfl, _, rfl, rfl, _, hJ, ?_, ?_, fun c o e => ?_⟩
      · rw [List.length_map, List.length_take]
        exact small1000 (by omega)
      · have et : (fl14 way).take (i + 1) = (fl14 way).take i ++ [decide ((1 + (i : Nat) : Int) = way)] := by
          rcases (show i = 0 ∨ i = 1 ∨ i = 2 ∨ i = 3 ∨ i = 4 ∨ i = 5 ∨ i = 6 ∨ i = 7 ∨ i = 8 ∨ i = 9 ∨ i = 10 ∨ i = 11 ∨ i = 12 by omega) with rfl | rfl | rfl | rfl | rfl | rfl | rfl | rfl | rfl | rfl | rfl | rfl | rfl <;> rfl
        rw [upd_same, et, List.map_append]
        have ei : decide (V.int (1 + (i : Nat)) = V.int way) = decide ((1 + (i : Nat) : Int) = way) := by
          rw [decide_eq_decide]
          exact ⟨fun z => by injection z, fun z => by rw [z]⟩
        rw [ei]
        rfl
      · rw [upd_ne (ne_of_none e hD)]
        exact sJ c o e
    rintro J ⟨hJ, sJ⟩
    refine ⟨(by show 1 ≤ sizeLine; decide), fun g1 m1 => ?_⟩
    have x1 := same_new (o := .lst [.bl true]) m1
    refine ⟨D, g1, _, _, rfl, rfl, x1 _ _ hJ, upd_same, (by rw [sizeLine_eq]; show 14 ≤ _; omega), fun g2 m2 => ?_⟩
    have x2 := same_new (o := .lst (((fl14 way).take 13).map V.bl ++ [V.bl true])) m2
    refine ⟨_, rfl, (by show 2 ≤ sizeLine; decide), fun g3 m3 => ?_⟩
    have x3 := same_new (o := .lst [.ref g2, v]) m3
    have s7 := ((sJ.trans x1).trans x2).trans x3
    have RF : Rp (.list ((fl14 way).map PyData.bool)) 100 5 := by
      have h := RpA.all (n := 0) (k := 0) (xs := (fl14 way).map PyData.bool) fun d hd => by
        obtain ⟨b, _, rfl⟩ := List.mem_map.mp hd
        exact Rp.bool b
      exact (Rp.list h).mono (by rw [List.length_map]; show 14 * 1 ≤ 100; decide) (by decide)
    have RD : Rp (.list [.list [.list ((fl14 way).map PyData.bool), d], .list [.list ((fl14 way).map PyData.bool), d]]) 2000 40 :=
      (Rp.list (.cons (Rp.list (.cons RF (.cons rd .nil))) (.cons (Rp.list (.cons RF (.cons rd .nil))) .nil))).mono (by omega) (by omega)
    refine ⟨_, rfl, q2, _, 2000, 40, rfl, .lst (SqL.of (s7 _ _ hT)) (.cons (.lst (SqL.of (s7 _ _ ha)) (.cons (.lst (SqL.of (s7 _ _ ha1)) (dpAll_bools _)) (.cons (dp _ s7) .nil))) (.cons (.lst (SqL.of (s7 _ _ hb)) (.cons (.lst (SqL.of (s7 _ _ hb1)) (dpAll_bools _)) (.cons (dp _ s7) .nil))) .nil)), RD, by decide, by decide, ?_⟩
    refine ⟨_, rfl, _, rfl, (by show 2 ≤ sizeLine; decide), fun g4 m4 => ?_⟩
    have x4 := same_new (o := .lst [.ref g3, .ref g3]) m4
    have s8 := s7.trans x4
    have hg2 : (upd (upd (upd (upd J g1 (.lst [.bl true])) g2 (.lst (((fl14 way).take 13).map V.bl ++ [V.bl true]))) g3 (.lst [.ref g2, v])) g4 (.lst [.ref g3, .ref g3])) g2 = some (.lst ((fl14 way).map V.bl)) := x4 _ _ (x3 _ _ upd_same)
    have hg3 := x4 _ _ (upd_same (H := upd (upd J g1 (.lst [.bl true])) g2 (.lst (((fl14 way).take 13).map V.bl ++ [V.bl true]))) (a := g3) (o := .lst [.ref g2, v]))
    refine ⟨g4, _, 2000, 40, rfl, .lst (SqL.of upd_same) (.cons (.lst (SqL.of hg3) (.cons (.lst (SqL.of hg2) (dpAll_bools _)) (.cons (dp _ s8) .nil))) (.cons (.lst (SqL.of hg3) (.cons (.lst (SqL.of hg2) (dpAll_bools _)) (.cons (dp _ s8) .nil))) .nil)), RD, by decide, by decide, rfl, ?_⟩
    rw [decide_eq_true rfl]
    exact k _ (f7.trans (Fr.of s8)) ((w7.same s8).mono (by omega))
end

def cl14 (C0 C1 C2 C3 C4 C5 C6 C7 C8 C9 C10 C11 C12 C13 : Addr) (i : Int) : Addr := if i = 1 then C1 else if i = 2 then C2 else if i = 3 then C3 else if i = 4 then C4 else if i = 5 then C5 else if i = 6 then C6 else if i = 7 then C7 else if i = 8 then C8 else if i = 9 then C9 else if i = 10 then C10 else if i = 11 then C11 else if i = 12 then C12 else if i = 13 then C13 else C0
theorem kit_eq {K : PySem.W.Frag} {D : Addr} : PySem.W.kitOne K (.ref D) (.ref D) = some true := if_pos (beq_self_eq_true _)
theorem kit_ne {K : PySem.W.Frag} {D C : Addr} (h : PySem.W.subIn K (.ref D) (.ref C) = some false) (hD : PySem.W.subIn K (.ref D) (.ref D) = some true) (hd : PySem.W.hasDictIn K C = true) (ht : PySem.W.typeIn K (.ref C) = some (.type "type")) : PySem.W.kitOne K (.ref D) (.ref C) = some false := by
  have ne : D ≠ C := fun e => by
    subst e
    rw [h] at hD
    cases hD
  have n2 : ¬ (Value.ref D == Value.ref C) = true := fun q => ne (Value.ref.inj (beq_iff_eq.mp q))
  obtain ⟨cd, hc, _⟩ := PySem.W.any_some hd
  have e2 : ((PySem.W.clsIn K C).isSome && PySem.W.typeIn K (.ref C) == some (.type "type")) = true := by rw [hc, ht] <;> rfl
  show (if (Value.ref D == Value.ref C) = true then some true else PySem.W.kitCls K (.ref D) (.ref C)) = some false
  rw [if_neg n2]
  show (if ((PySem.W.clsIn K C).isSome && PySem.W.typeIn K (.ref C) == some (.type "type")) = true then PySem.W.subIn K (.ref D) (.ref C) else none) = some false
  rw [if_pos e2]
  exact h
theorem kit_ty {K : PySem.W.Frag} {D : Addr} {T : String} (h : PySem.W.subIn K (.ref D) (.type T) = some true) (m : PySem.W.kitMeta T = true) : PySem.W.kitOne K (.ref D) (.type T) = some true := by
  show (if (Value.ref D == Value.type T) = true then some true else if PySem.W.kitMeta T = true then PySem.W.subIn K (.ref D) (.type T) else none) = some true
  rw [if_pos m, h]
  split <;> rfl
section
theorem all_mk {l : PySem.W.OpenLaw} {w : World} {K : PySem.W.Frag} {h : Heap} {mg : Str → Option Value} {fa C0 C1 C2 C3 C4 C5 C6 C7 C8 C9 C10 C11 C12 C13 fE f0 f1 f2 f3 f4 f5 f6 f7 : Addr} (X : K.In h) (G : h.Ns mainGlobals mg) (hfa : mg "law" = some (.ref fa))
    {oc0 kV0 dc0 pm0 cd0 ct0 : Value} {od0 an0 : Option Addr} {sl0 : Array (Option Value)}
    {oc1 kV1 dc1 pm1 cd1 ct1 : Value} {od1 an1 : Option Addr} {sl1 : Array (Option Value)}
    {oc2 kV2 dc2 pm2 cd2 ct2 : Value} {od2 an2 : Option Addr} {sl2 : Array (Option Value)}
    {oc3 kV3 dc3 pm3 cd3 ct3 : Value} {od3 an3 : Option Addr} {sl3 : Array (Option Value)}
    {oc4 kV4 dc4 pm4 cd4 ct4 : Value} {od4 an4 : Option Addr} {sl4 : Array (Option Value)}
    {oc5 kV5 dc5 pm5 cd5 ct5 : Value} {od5 an5 : Option Addr} {sl5 : Array (Option Value)}
    {oc6 kV6 dc6 pm6 cd6 ct6 : Value} {od6 an6 : Option Addr} {sl6 : Array (Option Value)}
    {oc7 kV7 dc7 pm7 cd7 ct7 : Value} {od7 an7 : Option Addr} {sl7 : Array (Option Value)}
    {nm_C0 q_C0 : Str} {N_C0 : Addr} {bs_C0 : List Value} {sn_C0 : List Str} {sub_C0 : List Value} {ab_C0 : Bool} {col_C0 : Option Bool} {dd_C0 : Option Addr} {m0_C0 m1_C0 m2_C0 m3_C0 m5_C0 : Option Value}
    {nm_C1 q_C1 : Str} {N_C1 : Addr} {bs_C1 : List Value} {sn_C1 : List Str} {sub_C1 : List Value} {ab_C1 : Bool} {col_C1 : Option Bool} {dd_C1 : Option Addr} {m0_C1 m1_C1 m2_C1 m3_C1 m5_C1 : Option Value}
    {nm_C2 q_C2 : Str} {N_C2 : Addr} {bs_C2 : List Value} {sn_C2 : List Str} {sub_C2 : List Value} {ab_C2 : Bool} {col_C2 : Option Bool} {dd_C2 : Option Addr} {m0_C2 m1_C2 m2_C2 m3_C2 m5_C2 : Option Value}
    {nm_C3 q_C3 : Str} {N_C3 : Addr} {bs_C3 : List Value} {sn_C3 : List Str} {sub_C3 : List Value} {ab_C3 : Bool} {col_C3 : Option Bool} {dd_C3 : Option Addr} {m0_C3 m1_C3 m2_C3 m3_C3 m5_C3 : Option Value}
    {nm_C4 q_C4 : Str} {N_C4 : Addr} {bs_C4 : List Value} {sn_C4 : List Str} {sub_C4 : List Value} {ab_C4 : Bool} {col_C4 : Option Bool} {dd_C4 : Option Addr} {m0_C4 m1_C4 m2_C4 m3_C4 m5_C4 : Option Value}
    {nm_C5 q_C5 : Str} {N_C5 : Addr} {bs_C5 : List Value} {sn_C5 : List Str} {sub_C5 : List Value} {ab_C5 : Bool} {col_C5 : Option Bool} {dd_C5 : Option Addr} {m0_C5 m1_C5 m2_C5 m3_C5 m5_C5 : Option Value}
    {nm_C6 q_C6 : Str} {N_C6 : Addr} {bs_C6 : List Value} {sn_C6 : List Str} {sub_C6 : List Value} {ab_C6 : Bool} {col_C6 : Option Bool} {dd_C6 : Option Addr} {m0_C6 m1_C6 m2_C6 m3_C6 m5_C6 : Option Value}
    {nm_C7 q_C7 : Str} {N_C7 : Addr} {bs_C7 : List Value} {sn_C7 : List Str} {sub_C7 : List Value} {ab_C7 : Bool} {col_C7 : Option Bool} {dd_C7 : Option Addr} {m0_C7 m1_C7 m2_C7 m3_C7 m5_C7 : Option Value}
    {nm_C8 q_C8 : Str} {N_C8 : Addr} {bs_C8 : List Value} {sn_C8 : List Str} {sub_C8 : List Value} {ab_C8 : Bool} {col_C8 : Option Bool} {dd_C8 : Option Addr} {m0_C8 m1_C8 m2_C8 m3_C8 m5_C8 : Option Value}
    {nm_C9 q_C9 : Str} {N_C9 : Addr} {bs_C9 : List Value} {sn_C9 : List Str} {sub_C9 : List Value} {ab_C9 : Bool} {col_C9 : Option Bool} {dd_C9 : Option Addr} {m0_C9 m1_C9 m2_C9 m3_C9 m5_C9 : Option Value}
    {nm_C10 q_C10 : Str} {N_C10 : Addr} {bs_C10 : List Value} {sn_C10 : List Str} {sub_C10 : List Value} {ab_C10 : Bool} {col_C10 : Option Bool} {dd_C10 : Option Addr} {m0_C10 m1_C10 m2_C10 m3_C10 m5_C10 : Option Value}
    {nm_C11 q_C11 : Str} {N_C11 : Addr} {bs_C11 : List Value} {sn_C11 : List Str} {sub_C11 : List Value} {ab_C11 : Bool} {col_C11 : Option Bool} {dd_C11 : Option Addr} {m0_C11 m1_C11 m2_C11 m3_C11 m5_C11 : Option Value}
    {nm_C12 q_C12 : Str} {N_C12 : Addr} {bs_C12 : List Value} {sn_C12 : List Str} {sub_C12 : List Value} {ab_C12 : Bool} {col_C12 : Option Bool} {dd_C12 : Option Addr} {m0_C12 m1_C12 m2_C12 m3_C12 m5_C12 : Option Value}
    {nm_C13 q_C13 : Str} {N_C13 : Addr} {bs_C13 : List Value} {sn_C13 : List Str} {sub_C13 : List Value} {ab_C13 : Bool} {col_C13 : Option Bool} {dd_C13 : Option Addr} {m0_C13 m1_C13 m2_C13 m3_C13 m5_C13 : Option Value}
    {ocE kVE dcE pmE cdE ctE : Value} {odE anE : Option Addr} {slE : Array (Option Value)}
    (a0 : PySem.W.nsIn K mainGlobals "_law_well" = some (some (.ref f0)))
    (l0 : K.lookup f0 = some ⟨oc0, od0, .func (PySem.W.fnOf "_law_well" "_law_well" (defArgs sWell) (defBody sWell) (defScope sWell) .none kV0 dc0 pm0 an0 cd0 ct0), sl0⟩)
    (c0 : PySem.W.codeIn K cd0 "_law_well" = true)
    (k0 : PySem.W.keepIn K (.ref f0) = true)
    (a1 : PySem.W.nsIn K mainGlobals "_law_take" = some (some (.ref f1)))
    (l1 : K.lookup f1 = some ⟨oc1, od1, .func (PySem.W.fnOf "_law_take" "_law_take" (defArgs sTake) (defBody sTake) (defScope sTake) .none kV1 dc1 pm1 an1 cd1 ct1), sl1⟩)
    (c1 : PySem.W.codeIn K cd1 "_law_take" = true)
    (k1 : PySem.W.keepIn K (.ref f1) = true)
    (a2 : PySem.W.nsIn K mainGlobals "_law_number" = some (some (.ref f2)))
    (l2 : K.lookup f2 = some ⟨oc2, od2, .func (PySem.W.fnOf "_law_number" "_law_number" (defArgs sNumber) (defBody sNumber) (defScope sNumber) .none kV2 dc2 pm2 an2 cd2 ct2), sl2⟩)
    (c2 : PySem.W.codeIn K cd2 "_law_number" = true)
    (k2 : PySem.W.keepIn K (.ref f2) = true)
    (a3 : PySem.W.nsIn K mainGlobals "_law_raise" = some (some (.ref f3)))
    (l3 : K.lookup f3 = some ⟨oc3, od3, .func (PySem.W.fnOf "_law_raise" "_law_raise" (defArgs sRaise) (defBody sRaise) (defScope sRaise) .none kV3 dc3 pm3 an3 cd3 ct3), sl3⟩)
    (c3 : PySem.W.codeIn K cd3 "_law_raise" = true)
    (k3 : PySem.W.keepIn K (.ref f3) = true)
    (a4 : PySem.W.nsIn K mainGlobals "_law_raise_plain" = some (some (.ref f4)))
    (l4 : K.lookup f4 = some ⟨oc4, od4, .func (PySem.W.fnOf "_law_raise_plain" "_law_raise_plain" (defArgs sRaiseP) (defBody sRaiseP) (defScope sRaiseP) .none kV4 dc4 pm4 an4 cd4 ct4), sl4⟩)
    (c4 : PySem.W.codeIn K cd4 "_law_raise_plain" = true)
    (k4 : PySem.W.keepIn K (.ref f4) = true)
    (a5 : PySem.W.nsIn K mainGlobals "_law_caught" = some (some (.ref f5)))
    (l5 : K.lookup f5 = some ⟨oc5, od5, .func (PySem.W.fnOf "_law_caught" "_law_caught" (defArgs sCaught) (defBody sCaught) (defScope sCaught) .none kV5 dc5 pm5 an5 cd5 ct5), sl5⟩)
    (c5 : PySem.W.codeIn K cd5 "_law_caught" = true)
    (k5 : PySem.W.keepIn K (.ref f5) = true)
    (a6 : PySem.W.nsIn K mainGlobals "_law_fits" = some (some (.ref f6)))
    (l6 : K.lookup f6 = some ⟨oc6, od6, .func (PySem.W.fnOf "_law_fits" "_law_fits" (defArgs sFits) (defBody sFits) (defScope sFits) .none kV6 dc6 pm6 an6 cd6 ct6), sl6⟩)
    (c6 : PySem.W.codeIn K cd6 "_law_fits" = true)
    (k6 : PySem.W.keepIn K (.ref f6) = true)
    (a7 : PySem.W.nsIn K mainGlobals "law" = some (some (.ref f7)))
    (l7 : K.lookup f7 = some ⟨oc7, od7, .func (PySem.W.fnOf "law" "law" (defArgs sLaw) (defBody sLaw) (defScope sLaw) .none kV7 dc7 pm7 an7 cd7 ct7), sl7⟩)
    (c7 : PySem.W.codeIn K cd7 "law" = true)
    (k7 : PySem.W.keepIn K (.ref f7) = true)
    (z_int : PySem.W.nsIn K mainGlobals "int" = some none)
    (z_len : PySem.W.nsIn K mainGlobals "len" = some none)
    (z_abs : PySem.W.nsIn K mainGlobals "abs" = some none)
    (z_max : PySem.W.nsIn K mainGlobals "max" = some none)
    (z_min : PySem.W.nsIn K mainGlobals "min" = some none)
    (z_range : PySem.W.nsIn K mainGlobals "range" = some none)
    (z_repr : PySem.W.nsIn K mainGlobals "repr" = some none)
    (z_list : PySem.W.nsIn K mainGlobals "list" = some none)
    (z_str : PySem.W.nsIn K mainGlobals "str" = some none)
    (z_isinstance : PySem.W.nsIn K mainGlobals "isinstance" = some none)
    (z_ValueError : PySem.W.nsIn K mainGlobals "ValueError" = some none)
    (aC0 : PySem.W.nsIn K mainGlobals "DueError" = some (some (.ref C0)))
    (aC1 : PySem.W.nsIn K mainGlobals "InvalidWeek" = some (some (.ref C1)))
    (aC2 : PySem.W.nsIn K mainGlobals "InvalidSpeed" = some (some (.ref C2)))
    (aC3 : PySem.W.nsIn K mainGlobals "NeverOpen" = some (some (.ref C3)))
    (aC4 : PySem.W.nsIn K mainGlobals "InvalidChange" = some (some (.ref C4)))
    (aC5 : PySem.W.nsIn K mainGlobals "InvalidAmount" = some (some (.ref C5)))
    (aC6 : PySem.W.nsIn K mainGlobals "InvalidSpan" = some (some (.ref C6)))
    (aC7 : PySem.W.nsIn K mainGlobals "InvalidMoment" = some (some (.ref C7)))
    (aC8 : PySem.W.nsIn K mainGlobals "UnlikeWeeks" = some (some (.ref C8)))
    (aC9 : PySem.W.nsIn K mainGlobals "NotRising" = some (some (.ref C9)))
    (aC10 : PySem.W.nsIn K mainGlobals "WrongState" = some (some (.ref C10)))
    (aC11 : PySem.W.nsIn K mainGlobals "NothingToUndo" = some (some (.ref C11)))
    (aC12 : PySem.W.nsIn K mainGlobals "TooMany" = some (some (.ref C12)))
    (aC13 : PySem.W.nsIn K mainGlobals "Unreadable" = some (some (.ref C13)))
    (tC0 : PySem.W.typeIn K (.ref C0) = some (.type "type"))
    (dC0 : PySem.W.hasDictIn K C0 = true)
    (xC0 : K.lookup C0 = some (excClassObj nm_C0 q_C0 C0 N_C0 bs_C0 [.type "ValueError", .type "Exception", .type "BaseException", .type "object"] true sn_C0 sub_C0 ab_C0 col_C0 dd_C0 m0_C0 m1_C0 m2_C0 m3_C0 m5_C0 "ValueError.__new__"))
    (sC0 : PySem.W.findIn K (.ref C0) "__setattr__" = some (some (.builtin "object.__setattr__")))
    (bC0 : PySem.W.subIn K (.ref C0) (.type "BaseException") = some true)
    (kC0 : PySem.W.keepIn K (.ref C0) = true)
    (vC0 : PySem.W.findIn K (.ref C0) "value" = some none)
    (iC0 : PySem.W.findIn K (.ref C0) "__init__" = some (some (.ref fE)))
    (gC0 : PySem.W.findIn K (.ref C0) "__getattribute__" = some (some (.builtin "BaseException.__getattribute__")))
    (hC0 : PySem.W.findIn K (.ref C0) "__getattr__" = some none)
    (lC0 : PySem.W.findIn K (.ref C0) "__class__" = some (some (.builtin "object.__class__")))
    (mC0 : PySem.W.mroIn K C0 (.type "object") = some true)
    (veC0 : PySem.W.subIn K (.ref C0) (.type "ValueError") = some true)
    (u0_0 : PySem.W.subIn K (.ref C0) (.ref C0) = some true)
    (u0_1 : PySem.W.subIn K (.ref C0) (.ref C1) = some false)
    (u0_2 : PySem.W.subIn K (.ref C0) (.ref C2) = some false)
    (u0_3 : PySem.W.subIn K (.ref C0) (.ref C3) = some false)
    (u0_4 : PySem.W.subIn K (.ref C0) (.ref C4) = some false)
    (u0_5 : PySem.W.subIn K (.ref C0) (.ref C5) = some false)
    (u0_6 : PySem.W.subIn K (.ref C0) (.ref C6) = some false)
    (u0_7 : PySem.W.subIn K (.ref C0) (.ref C7) = some false)
    (u0_8 : PySem.W.subIn K (.ref C0) (.ref C8) = some false)
    (u0_9 : PySem.W.subIn K (.ref C0) (.ref C9) = some false)
    (u0_10 : PySem.W.subIn K (.ref C0) (.ref C10) = some false)
    (u0_11 : PySem.W.subIn K (.ref C0) (.ref C11) = some false)
    (u0_12 : PySem.W.subIn K (.ref C0) (.ref C12) = some false)
    (u0_13 : PySem.W.subIn K (.ref C0) (.ref C13) = some false)
    (tC1 : PySem.W.typeIn K (.ref C1) = some (.type "type"))
    (dC1 : PySem.W.hasDictIn K C1 = true)
    (xC1 : K.lookup C1 = some (excClassObj nm_C1 q_C1 C1 N_C1 bs_C1 [.ref C0, .type "ValueError", .type "Exception", .type "BaseException", .type "object"] true sn_C1 sub_C1 ab_C1 col_C1 dd_C1 m0_C1 m1_C1 m2_C1 m3_C1 m5_C1 "ValueError.__new__"))
    (sC1 : PySem.W.findIn K (.ref C1) "__setattr__" = some (some (.builtin "object.__setattr__")))
    (bC1 : PySem.W.subIn K (.ref C1) (.type "BaseException") = some true)
    (kC1 : PySem.W.keepIn K (.ref C1) = true)
    (vC1 : PySem.W.findIn K (.ref C1) "value" = some none)
    (iC1 : PySem.W.findIn K (.ref C1) "__init__" = some (some (.ref fE)))
    (gC1 : PySem.W.findIn K (.ref C1) "__getattribute__" = some (some (.builtin "BaseException.__getattribute__")))
    (hC1 : PySem.W.findIn K (.ref C1) "__getattr__" = some none)
    (lC1 : PySem.W.findIn K (.ref C1) "__class__" = some (some (.builtin "object.__class__")))
    (mC1 : PySem.W.mroIn K C1 (.type "object") = some true)
    (veC1 : PySem.W.subIn K (.ref C1) (.type "ValueError") = some true)
    (u1_0 : PySem.W.subIn K (.ref C1) (.ref C0) = some true)
    (u1_1 : PySem.W.subIn K (.ref C1) (.ref C1) = some true)
    (u1_2 : PySem.W.subIn K (.ref C1) (.ref C2) = some false)
    (u1_3 : PySem.W.subIn K (.ref C1) (.ref C3) = some false)
    (u1_4 : PySem.W.subIn K (.ref C1) (.ref C4) = some false)
    (u1_5 : PySem.W.subIn K (.ref C1) (.ref C5) = some false)
    (u1_6 : PySem.W.subIn K (.ref C1) (.ref C6) = some false)
    (u1_7 : PySem.W.subIn K (.ref C1) (.ref C7) = some false)
    (u1_8 : PySem.W.subIn K (.ref C1) (.ref C8) = some false)
    (u1_9 : PySem.W.subIn K (.ref C1) (.ref C9) = some false)
    (u1_10 : PySem.W.subIn K (.ref C1) (.ref C10) = some false)
    (u1_11 : PySem.W.subIn K (.ref C1) (.ref C11) = some false)
    (u1_12 : PySem.W.subIn K (.ref C1) (.ref C12) = some false)
    (u1_13 : PySem.W.subIn K (.ref C1) (.ref C13) = some false)
    (tC2 : PySem.W.typeIn K (.ref C2) = some (.type "type"))
    (dC2 : PySem.W.hasDictIn K C2 = true)
    (xC2 : K.lookup C2 = some (excClassObj nm_C2 q_C2 C2 N_C2 bs_C2 [.ref C0, .type "ValueError", .type "Exception", .type "BaseException", .type "object"] true sn_C2 sub_C2 ab_C2 col_C2 dd_C2 m0_C2 m1_C2 m2_C2 m3_C2 m5_C2 "ValueError.__new__"))
    (sC2 : PySem.W.findIn K (.ref C2) "__setattr__" = some (some (.builtin "object.__setattr__")))
    (bC2 : PySem.W.subIn K (.ref C2) (.type "BaseException") = some true)
    (kC2 : PySem.W.keepIn K (.ref C2) = true)
    (vC2 : PySem.W.findIn K (.ref C2) "value" = some none)
    (iC2 : PySem.W.findIn K (.ref C2) "__init__" = some (some (.ref fE)))
    (gC2 : PySem.W.findIn K (.ref C2) "__getattribute__" = some (some (.builtin "BaseException.__getattribute__")))
    (hC2 : PySem.W.findIn K (.ref C2) "__getattr__" = some none)
    (lC2 : PySem.W.findIn K (.ref C2) "__class__" = some (some (.builtin "object.__class__")))
    (mC2 : PySem.W.mroIn K C2 (.type "object") = some true)
    (veC2 : PySem.W.subIn K (.ref C2) (.type "ValueError") = some true)
    (u2_0 : PySem.W.subIn K (.ref C2) (.ref C0) = some true)
    (u2_1 : PySem.W.subIn K (.ref C2) (.ref C1) = some false)
    (u2_2 : PySem.W.subIn K (.ref C2) (.ref C2) = some true)
    (u2_3 : PySem.W.subIn K (.ref C2) (.ref C3) = some false)
    (u2_4 : PySem.W.subIn K (.ref C2) (.ref C4) = some false)
    (u2_5 : PySem.W.subIn K (.ref C2) (.ref C5) = some false)
    (u2_6 : PySem.W.subIn K (.ref C2) (.ref C6) = some false)
    (u2_7 : PySem.W.subIn K (.ref C2) (.ref C7) = some false)
    (u2_8 : PySem.W.subIn K (.ref C2) (.ref C8) = some false)
    (u2_9 : PySem.W.subIn K (.ref C2) (.ref C9) = some false)
    (u2_10 : PySem.W.subIn K (.ref C2) (.ref C10) = some false)
    (u2_11 : PySem.W.subIn K (.ref C2) (.ref C11) = some false)
    (u2_12 : PySem.W.subIn K (.ref C2) (.ref C12) = some false)
    (u2_13 : PySem.W.subIn K (.ref C2) (.ref C13) = some false)
    (tC3 : PySem.W.typeIn K (.ref C3) = some (.type "type"))
    (dC3 : PySem.W.hasDictIn K C3 = true)
    (xC3 : K.lookup C3 = some (excClassObj nm_C3 q_C3 C3 N_C3 bs_C3 [.ref C0, .type "ValueError", .type "Exception", .type "BaseException", .type "object"] true sn_C3 sub_C3 ab_C3 col_C3 dd_C3 m0_C3 m1_C3 m2_C3 m3_C3 m5_C3 "ValueError.__new__"))
    (sC3 : PySem.W.findIn K (.ref C3) "__setattr__" = some (some (.builtin "object.__setattr__")))
    (bC3 : PySem.W.subIn K (.ref C3) (.type "BaseException") = some true)
    (kC3 : PySem.W.keepIn K (.ref C3) = true)
    (vC3 : PySem.W.findIn K (.ref C3) "value" = some none)
    (iC3 : PySem.W.findIn K (.ref C3) "__init__" = some (some (.ref fE)))
    (gC3 : PySem.W.findIn K (.ref C3) "__getattribute__" = some (some (.builtin "BaseException.__getattribute__")))
    (hC3 : PySem.W.findIn K (.ref C3) "__getattr__" = some none)
    (lC3 : PySem.W.findIn K (.ref C3) "__class__" = some (some (.builtin "object.__class__")))
    (mC3 : PySem.W.mroIn K C3 (.type "object") = some true)
    (veC3 : PySem.W.subIn K (.ref C3) (.type "ValueError") = some true)
    (u3_0 : PySem.W.subIn K (.ref C3) (.ref C0) = some true)
    (u3_1 : PySem.W.subIn K (.ref C3) (.ref C1) = some false)
    (u3_2 : PySem.W.subIn K (.ref C3) (.ref C2) = some false)
    (u3_3 : PySem.W.subIn K (.ref C3) (.ref C3) = some true)
    (u3_4 : PySem.W.subIn K (.ref C3) (.ref C4) = some false)
    (u3_5 : PySem.W.subIn K (.ref C3) (.ref C5) = some false)
    (u3_6 : PySem.W.subIn K (.ref C3) (.ref C6) = some false)
    (u3_7 : PySem.W.subIn K (.ref C3) (.ref C7) = some false)
    (u3_8 : PySem.W.subIn K (.ref C3) (.ref C8) = some false)
    (u3_9 : PySem.W.subIn K (.ref C3) (.ref C9) = some false)
    (u3_10 : PySem.W.subIn K (.ref C3) (.ref C10) = some false)
    (u3_11 : PySem.W.subIn K (.ref C3) (.ref C11) = some false)
    (u3_12 : PySem.W.subIn K (.ref C3) (.ref C12) = some false)
    (u3_13 : PySem.W.subIn K (.ref C3) (.ref C13) = some false)
    (tC4 : PySem.W.typeIn K (.ref C4) = some (.type "type"))
    (dC4 : PySem.W.hasDictIn K C4 = true)
    (xC4 : K.lookup C4 = some (excClassObj nm_C4 q_C4 C4 N_C4 bs_C4 [.ref C0, .type "ValueError", .type "Exception", .type "BaseException", .type "object"] true sn_C4 sub_C4 ab_C4 col_C4 dd_C4 m0_C4 m1_C4 m2_C4 m3_C4 m5_C4 "ValueError.__new__"))
    (sC4 : PySem.W.findIn K (.ref C4) "__setattr__" = some (some (.builtin "object.__setattr__")))
    (bC4 : PySem.W.subIn K (.ref C4) (.type "BaseException") = some true)
    (kC4 : PySem.W.keepIn K (.ref C4) = true)
    (vC4 : PySem.W.findIn K (.ref C4) "value" = some none)
    (iC4 : PySem.W.findIn K (.ref C4) "__init__" = some (some (.ref fE)))
    (gC4 : PySem.W.findIn K (.ref C4) "__getattribute__" = some (some (.builtin "BaseException.__getattribute__")))
    (hC4 : PySem.W.findIn K (.ref C4) "__getattr__" = some none)
    (lC4 : PySem.W.findIn K (.ref C4) "__class__" = some (some (.builtin "object.__class__")))
    (mC4 : PySem.W.mroIn K C4 (.type "object") = some true)
    (veC4 : PySem.W.subIn K (.ref C4) (.type "ValueError") = some true)
    (u4_0 : PySem.W.subIn K (.ref C4) (.ref C0) = some true)
    (u4_1 : PySem.W.subIn K (.ref C4) (.ref C1) = some false)
    (u4_2 : PySem.W.subIn K (.ref C4) (.ref C2) = some false)
    (u4_3 : PySem.W.subIn K (.ref C4) (.ref C3) = some false)
    (u4_4 : PySem.W.subIn K (.ref C4) (.ref C4) = some true)
    (u4_5 : PySem.W.subIn K (.ref C4) (.ref C5) = some false)
    (u4_6 : PySem.W.subIn K (.ref C4) (.ref C6) = some false)
    (u4_7 : PySem.W.subIn K (.ref C4) (.ref C7) = some false)
    (u4_8 : PySem.W.subIn K (.ref C4) (.ref C8) = some false)
    (u4_9 : PySem.W.subIn K (.ref C4) (.ref C9) = some false)
    (u4_10 : PySem.W.subIn K (.ref C4) (.ref C10) = some false)
    (u4_11 : PySem.W.subIn K (.ref C4) (.ref C11) = some false)
    (u4_12 : PySem.W.subIn K (.ref C4) (.ref C12) = some false)
    (u4_13 : PySem.W.subIn K (.ref C4) (.ref C13) = some false)
    (tC5 : PySem.W.typeIn K (.ref C5) = some (.type "type"))
    (dC5 : PySem.W.hasDictIn K C5 = true)
    (xC5 : K.lookup C5 = some (excClassObj nm_C5 q_C5 C5 N_C5 bs_C5 [.ref C0, .type "ValueError", .type "Exception", .type "BaseException", .type "object"] true sn_C5 sub_C5 ab_C5 col_C5 dd_C5 m0_C5 m1_C5 m2_C5 m3_C5 m5_C5 "ValueError.__new__"))
    (sC5 : PySem.W.findIn K (.ref C5) "__setattr__" = some (some (.builtin "object.__setattr__")))
    (bC5 : PySem.W.subIn K (.ref C5) (.type "BaseException") = some true)
    (kC5 : PySem.W.keepIn K (.ref C5) = true)
    (vC5 : PySem.W.findIn K (.ref C5) "value" = some none)
    (iC5 : PySem.W.findIn K (.ref C5) "__init__" = some (some (.ref fE)))
    (gC5 : PySem.W.findIn K (.ref C5) "__getattribute__" = some (some (.builtin "BaseException.__getattribute__")))
    (hC5 : PySem.W.findIn K (.ref C5) "__getattr__" = some none)
    (lC5 : PySem.W.findIn K (.ref C5) "__class__" = some (some (.builtin "object.__class__")))
    (mC5 : PySem.W.mroIn K C5 (.type "object") = some true)
    (veC5 : PySem.W.subIn K (.ref C5) (.type "ValueError") = some true)
    (u5_0 : PySem.W.subIn K (.ref C5) (.ref C0) = some true)
    (u5_1 : PySem.W.subIn K (.ref C5) (.ref C1) = some false)
    (u5_2 : PySem.W.subIn K (.ref C5) (.ref C2) = some false)
    (u5_3 : PySem.W.subIn K (.ref C5) (.ref C3) = some false)
    (u5_4 : PySem.W.subIn K (.ref C5) (.ref C4) = some false)
    (u5_5 : PySem.W.subIn K (.ref C5) (.ref C5) = some true)
    (u5_6 : PySem.W.subIn K (.ref C5) (.ref C6) = some false)
    (u5_7 : PySem.W.subIn K (.ref C5) (.ref C7) = some false)
    (u5_8 : PySem.W.subIn K (.ref C5) (.ref C8) = some false)
    (u5_9 : PySem.W.subIn K (.ref C5) (.ref C9) = some false)
    (u5_10 : PySem.W.subIn K (.ref C5) (.ref C10) = some false)
    (u5_11 : PySem.W.subIn K (.ref C5) (.ref C11) = some false)
    (u5_12 : PySem.W.subIn K (.ref C5) (.ref C12) = some false)
    (u5_13 : PySem.W.subIn K (.ref C5) (.ref C13) = some false)
    (tC6 : PySem.W.typeIn K (.ref C6) = some (.type "type"))
    (dC6 : PySem.W.hasDictIn K C6 = true)
    (xC6 : K.lookup C6 = some (excClassObj nm_C6 q_C6 C6 N_C6 bs_C6 [.ref C0, .type "ValueError", .type "Exception", .type "BaseException", .type "object"] true sn_C6 sub_C6 ab_C6 col_C6 dd_C6 m0_C6 m1_C6 m2_C6 m3_C6 m5_C6 "ValueError.__new__"))
    (sC6 : PySem.W.findIn K (.ref C6) "__setattr__" = some (some (.builtin "object.__setattr__")))
    (bC6 : PySem.W.subIn K (.ref C6) (.type "BaseException") = some true)
    (kC6 : PySem.W.keepIn K (.ref C6) = true)
    (vC6 : PySem.W.findIn K (.ref C6) "value" = some none)
    (iC6 : PySem.W.findIn K (.ref C6) "__init__" = some (some (.ref fE)))
    (gC6 : PySem.W.findIn K (.ref C6) "__getattribute__" = some (some (.builtin "BaseException.__getattribute__")))
    (hC6 : PySem.W.findIn K (.ref C6) "__getattr__" = some none)
    (lC6 : PySem.W.findIn K (.ref C6) "__class__" = some (some (.builtin "object.__class__")))
    (mC6 : PySem.W.mroIn K C6 (.type "object") = some true)
    (veC6 : PySem.W.subIn K (.ref C6) (.type "ValueError") = some true)
    (u6_0 : PySem.W.subIn K (.ref C6) (.ref C0) = some true)
    (u6_1 : PySem.W.subIn K (.ref C6) (.ref C1) = some false)
    (u6_2 : PySem.W.subIn K (.ref C6) (.ref C2) = some false)
    (u6_3 : PySem.W.subIn K (.ref C6) (.ref C3) = some false)
    (u6_4 : PySem.W.subIn K (.ref C6) (.ref C4) = some false)
    (u6_5 : PySem.W.subIn K (.ref C6) (.ref C5) = some false)
    (u6_6 : PySem.W.subIn K (.ref C6) (.ref C6) = some true)
    (u6_7 : PySem.W.subIn K (.ref C6) (.ref C7) = some false)
    (u6_8 : PySem.W.subIn K (.ref C6) (.ref C8) = some false)
    (u6_9 : PySem.W.subIn K (.ref C6) (.ref C9) = some false)
    (u6_10 : PySem.W.subIn K (.ref C6) (.ref C10) = some false)
    (u6_11 : PySem.W.subIn K (.ref C6) (.ref C11) = some false)
    (u6_12 : PySem.W.subIn K (.ref C6) (.ref C12) = some false)
    (u6_13 : PySem.W.subIn K (.ref C6) (.ref C13) = some false)
    (tC7 : PySem.W.typeIn K (.ref C7) = some (.type "type"))
    (dC7 : PySem.W.hasDictIn K C7 = true)
    (xC7 : K.lookup C7 = some (excClassObj nm_C7 q_C7 C7 N_C7 bs_C7 [.ref C0, .type "ValueError", .type "Exception", .type "BaseException", .type "object"] true sn_C7 sub_C7 ab_C7 col_C7 dd_C7 m0_C7 m1_C7 m2_C7 m3_C7 m5_C7 "ValueError.__new__"))
    (sC7 : PySem.W.findIn K (.ref C7) "__setattr__" = some (some (.builtin "object.__setattr__")))
    (bC7 : PySem.W.subIn K (.ref C7) (.type "BaseException") = some true)
    (kC7 : PySem.W.keepIn K (.ref C7) = true)
    (vC7 : PySem.W.findIn K (.ref C7) "value" = some none)
    (iC7 : PySem.W.findIn K (.ref C7) "__init__" = some (some (.ref fE)))
    (gC7 : PySem.W.findIn K (.ref C7) "__getattribute__" = some (some (.builtin "BaseException.__getattribute__")))
    (hC7 : PySem.W.findIn K (.ref C7) "__getattr__" = some none)
    (lC7 : PySem.W.findIn K (.ref C7) "__class__" = some (some (.builtin "object.__class__")))
    (mC7 : PySem.W.mroIn K C7 (.type "object") = some true)
    (veC7 : PySem.W.subIn K (.ref C7) (.type "ValueError") = some true)
    (u7_0 : PySem.W.subIn K (.ref C7) (.ref C0) = some true)
    (u7_1 : PySem.W.subIn K (.ref C7) (.ref C1) = some false)
    (u7_2 : PySem.W.subIn K (.ref C7) (.ref C2) = some false)
    (u7_3 : PySem.W.subIn K (.ref C7) (.ref C3) = some false)
    (u7_4 : PySem.W.subIn K (.ref C7) (.ref C4) = some false)
    (u7_5 : PySem.W.subIn K (.ref C7) (.ref C5) = some false)
    (u7_6 : PySem.W.subIn K (.ref C7) (.ref C6) = some false)
    (u7_7 : PySem.W.subIn K (.ref C7) (.ref C7) = some true)
    (u7_8 : PySem.W.subIn K (.ref C7) (.ref C8) = some false)
    (u7_9 : PySem.W.subIn K (.ref C7) (.ref C9) = some false)
    (u7_10 : PySem.W.subIn K (.ref C7) (.ref C10) = some false)
    (u7_11 : PySem.W.subIn K (.ref C7) (.ref C11) = some false)
    (u7_12 : PySem.W.subIn K (.ref C7) (.ref C12) = some false)
    (u7_13 : PySem.W.subIn K (.ref C7) (.ref C13) = some false)
    (tC8 : PySem.W.typeIn K (.ref C8) = some (.type "type"))
    (dC8 : PySem.W.hasDictIn K C8 = true)
    (xC8 : K.lookup C8 = some (excClassObj nm_C8 q_C8 C8 N_C8 bs_C8 [.ref C0, .type "ValueError", .type "Exception", .type "BaseException", .type "object"] true sn_C8 sub_C8 ab_C8 col_C8 dd_C8 m0_C8 m1_C8 m2_C8 m3_C8 m5_C8 "ValueError.__new__"))
    (sC8 : PySem.W.findIn K (.ref C8) "__setattr__" = some (some (.builtin "object.__setattr__")))
    (bC8 : PySem.W.subIn K (.ref C8) (.type "BaseException") = some true)
    (kC8 : PySem.W.keepIn K (.ref C8) = true)
    (vC8 : PySem.W.findIn K (.ref C8) "value" = some none)
    (iC8 : PySem.W.findIn K (.ref C8) "__init__" = some (some (.ref fE)))
    (gC8 : PySem.W.findIn K (.ref C8) "__getattribute__" = some (some (.builtin "BaseException.__getattribute__")))
    (hC8 : PySem.W.findIn K (.ref C8) "__getattr__" = some none)
    (lC8 : PySem.W.findIn K (.ref C8) "__class__" = some (some (.builtin "object.__class__")))
    (mC8 : PySem.W.mroIn K C8 (.type "object") = some true)
    (veC8 : PySem.W.subIn K (.ref C8) (.type "ValueError") = some true)
    (u8_0 : PySem.W.subIn K (.ref C8) (.ref C0) = some true)
    (u8_1 : PySem.W.subIn K (.ref C8) (.ref C1) = some false)
    (u8_2 : PySem.W.subIn K (.ref C8) (.ref C2) = some false)
    (u8_3 : PySem.W.subIn K (.ref C8) (.ref C3) = some false)
    (u8_4 : PySem.W.subIn K (.ref C8) (.ref C4) = some false)
    (u8_5 : PySem.W.subIn K (.ref C8) (.ref C5) = some false)
    (u8_6 : PySem.W.subIn K (.ref C8) (.ref C6) = some false)
    (u8_7 : PySem.W.subIn K (.ref C8) (.ref C7) = some false)
    (u8_8 : PySem.W.subIn K (.ref C8) (.ref C8) = some true)
    (u8_9 : PySem.W.subIn K (.ref C8) (.ref C9) = some false)
    (u8_10 : PySem.W.subIn K (.ref C8) (.ref C10) = some false)
    (u8_11 : PySem.W.subIn K (.ref C8) (.ref C11) = some false)
    (u8_12 : PySem.W.subIn K (.ref C8) (.ref C12) = some false)
    (u8_13 : PySem.W.subIn K (.ref C8) (.ref C13) = some false)
    (tC9 : PySem.W.typeIn K (.ref C9) = some (.type "type"))
    (dC9 : PySem.W.hasDictIn K C9 = true)
    (xC9 : K.lookup C9 = some (excClassObj nm_C9 q_C9 C9 N_C9 bs_C9 [.ref C0, .type "ValueError", .type "Exception", .type "BaseException", .type "object"] true sn_C9 sub_C9 ab_C9 col_C9 dd_C9 m0_C9 m1_C9 m2_C9 m3_C9 m5_C9 "ValueError.__new__"))
    (sC9 : PySem.W.findIn K (.ref C9) "__setattr__" = some (some (.builtin "object.__setattr__")))
    (bC9 : PySem.W.subIn K (.ref C9) (.type "BaseException") = some true)
    (kC9 : PySem.W.keepIn K (.ref C9) = true)
    (vC9 : PySem.W.findIn K (.ref C9) "value" = some none)
    (iC9 : PySem.W.findIn K (.ref C9) "__init__" = some (some (.ref fE)))
    (gC9 : PySem.W.findIn K (.ref C9) "__getattribute__" = some (some (.builtin "BaseException.__getattribute__")))
    (hC9 : PySem.W.findIn K (.ref C9) "__getattr__" = some none)
    (lC9 : PySem.W.findIn K (.ref C9) "__class__" = some (some (.builtin "object.__class__")))
    (mC9 : PySem.W.mroIn K C9 (.type "object") = some true)
    (veC9 : PySem.W.subIn K (.ref C9) (.type "ValueError") = some true)
    (u9_0 : PySem.W.subIn K (.ref C9) (.ref C0) = some true)
    (u9_1 : PySem.W.subIn K (.ref C9) (.ref C1) = some false)
    (u9_2 : PySem.W.subIn K (.ref C9) (.ref C2) = some false)
    (u9_3 : PySem.W.subIn K (.ref C9) (.ref C3) = some false)
    (u9_4 : PySem.W.subIn K (.ref C9) (.ref C4) = some false)
    (u9_5 : PySem.W.subIn K (.ref C9) (.ref C5) = some false)
    (u9_6 : PySem.W.subIn K (.ref C9) (.ref C6) = some false)
    (u9_7 : PySem.W.subIn K (.ref C9) (.ref C7) = some false)
    (u9_8 : PySem.W.subIn K (.ref C9) (.ref C8) = some false)
    (u9_9 : PySem.W.subIn K (.ref C9) (.ref C9) = some true)
    (u9_10 : PySem.W.subIn K (.ref C9) (.ref C10) = some false)
    (u9_11 : PySem.W.subIn K (.ref C9) (.ref C11) = some false)
    (u9_12 : PySem.W.subIn K (.ref C9) (.ref C12) = some false)
    (u9_13 : PySem.W.subIn K (.ref C9) (.ref C13) = some false)
    (tC10 : PySem.W.typeIn K (.ref C10) = some (.type "type"))
    (dC10 : PySem.W.hasDictIn K C10 = true)
    (xC10 : K.lookup C10 = some (excClassObj nm_C10 q_C10 C10 N_C10 bs_C10 [.ref C0, .type "ValueError", .type "Exception", .type "BaseException", .type "object"] true sn_C10 sub_C10 ab_C10 col_C10 dd_C10 m0_C10 m1_C10 m2_C10 m3_C10 m5_C10 "ValueError.__new__"))
    (sC10 : PySem.W.findIn K (.ref C10) "__setattr__" = some (some (.builtin "object.__setattr__")))
    (bC10 : PySem.W.subIn K (.ref C10) (.type "BaseException") = some true)
    (kC10 : PySem.W.keepIn K (.ref C10) = true)
    (vC10 : PySem.W.findIn K (.ref C10) "value" = some none)
    (iC10 : PySem.W.findIn K (.ref C10) "__init__" = some (some (.ref fE)))
    (gC10 : PySem.W.findIn K (.ref C10) "__getattribute__" = some (some (.builtin "BaseException.__getattribute__")))
    (hC10 : PySem.W.findIn K (.ref C10) "__getattr__" = some none)
    (lC10 : PySem.W.findIn K (.ref C10) "__class__" = some (some (.builtin "object.__class__")))
    (mC10 : PySem.W.mroIn K C10 (.type "object") = some true)
    (veC10 : PySem.W.subIn K (.ref C10) (.type "ValueError") = some true)
    (u10_0 : PySem.W.subIn K (.ref C10) (.ref C0) = some true)
    (u10_1 : PySem.W.subIn K (.ref C10) (.ref C1) = some false)
    (u10_2 : PySem.W.subIn K (.ref C10) (.ref C2) = some false)
    (u10_3 : PySem.W.subIn K (.ref C10) (.ref C3) = some false)
    (u10_4 : PySem.W.subIn K (.ref C10) (.ref C4) = some false)
    (u10_5 : PySem.W.subIn K (.ref C10) (.ref C5) = some false)
    (u10_6 : PySem.W.subIn K (.ref C10) (.ref C6) = some false)
    (u10_7 : PySem.W.subIn K (.ref C10) (.ref C7) = some false)
    (u10_8 : PySem.W.subIn K (.ref C10) (.ref C8) = some false)
    (u10_9 : PySem.W.subIn K (.ref C10) (.ref C9) = some false)
    (u10_10 : PySem.W.subIn K (.ref C10) (.ref C10) = some true)
    (u10_11 : PySem.W.subIn K (.ref C10) (.ref C11) = some false)
    (u10_12 : PySem.W.subIn K (.ref C10) (.ref C12) = some false)
    (u10_13 : PySem.W.subIn K (.ref C10) (.ref C13) = some false)
    (tC11 : PySem.W.typeIn K (.ref C11) = some (.type "type"))
    (dC11 : PySem.W.hasDictIn K C11 = true)
    (xC11 : K.lookup C11 = some (excClassObj nm_C11 q_C11 C11 N_C11 bs_C11 [.ref C0, .type "ValueError", .type "Exception", .type "BaseException", .type "object"] true sn_C11 sub_C11 ab_C11 col_C11 dd_C11 m0_C11 m1_C11 m2_C11 m3_C11 m5_C11 "ValueError.__new__"))
    (sC11 : PySem.W.findIn K (.ref C11) "__setattr__" = some (some (.builtin "object.__setattr__")))
    (bC11 : PySem.W.subIn K (.ref C11) (.type "BaseException") = some true)
    (kC11 : PySem.W.keepIn K (.ref C11) = true)
    (vC11 : PySem.W.findIn K (.ref C11) "value" = some none)
    (iC11 : PySem.W.findIn K (.ref C11) "__init__" = some (some (.ref fE)))
    (gC11 : PySem.W.findIn K (.ref C11) "__getattribute__" = some (some (.builtin "BaseException.__getattribute__")))
    (hC11 : PySem.W.findIn K (.ref C11) "__getattr__" = some none)
    (lC11 : PySem.W.findIn K (.ref C11) "__class__" = some (some (.builtin "object.__class__")))
    (mC11 : PySem.W.mroIn K C11 (.type "object") = some true)
    (veC11 : PySem.W.subIn K (.ref C11) (.type "ValueError") = some true)
    (u11_0 : PySem.W.subIn K (.ref C11) (.ref C0) = some true)
    (u11_1 : PySem.W.subIn K (.ref C11) (.ref C1) = some false)
    (u11_2 : PySem.W.subIn K (.ref C11) (.ref C2) = some false)
    (u11_3 : PySem.W.subIn K (.ref C11) (.ref C3) = some false)
    (u11_4 : PySem.W.subIn K (.ref C11) (.ref C4) = some false)
    (u11_5 : PySem.W.subIn K (.ref C11) (.ref C5) = some false)
    (u11_6 : PySem.W.subIn K (.ref C11) (.ref C6) = some false)
    (u11_7 : PySem.W.subIn K (.ref C11) (.ref C7) = some false)
    (u11_8 : PySem.W.subIn K (.ref C11) (.ref C8) = some false)
    (u11_9 : PySem.W.subIn K (.ref C11) (.ref C9) = some false)
    (u11_10 : PySem.W.subIn K (.ref C11) (.ref C10) = some false)
    (u11_11 : PySem.W.subIn K (.ref C11) (.ref C11) = some true)
    (u11_12 : PySem.W.subIn K (.ref C11) (.ref C12) = some false)
    (u11_13 : PySem.W.subIn K (.ref C11) (.ref C13) = some false)
    (tC12 : PySem.W.typeIn K (.ref C12) = some (.type "type"))
    (dC12 : PySem.W.hasDictIn K C12 = true)
    (xC12 : K.lookup C12 = some (excClassObj nm_C12 q_C12 C12 N_C12 bs_C12 [.ref C0, .type "ValueError", .type "Exception", .type "BaseException", .type "object"] true sn_C12 sub_C12 ab_C12 col_C12 dd_C12 m0_C12 m1_C12 m2_C12 m3_C12 m5_C12 "ValueError.__new__"))
    (sC12 : PySem.W.findIn K (.ref C12) "__setattr__" = some (some (.builtin "object.__setattr__")))
    (bC12 : PySem.W.subIn K (.ref C12) (.type "BaseException") = some true)
    (kC12 : PySem.W.keepIn K (.ref C12) = true)
    (vC12 : PySem.W.findIn K (.ref C12) "value" = some none)
    (iC12 : PySem.W.findIn K (.ref C12) "__init__" = some (some (.ref fE)))
    (gC12 : PySem.W.findIn K (.ref C12) "__getattribute__" = some (some (.builtin "BaseException.__getattribute__")))
    (hC12 : PySem.W.findIn K (.ref C12) "__getattr__" = some none)
    (lC12 : PySem.W.findIn K (.ref C12) "__class__" = some (some (.builtin "object.__class__")))
    (mC12 : PySem.W.mroIn K C12 (.type "object") = some true)
    (veC12 : PySem.W.subIn K (.ref C12) (.type "ValueError") = some true)
    (u12_0 : PySem.W.subIn K (.ref C12) (.ref C0) = some true)
    (u12_1 : PySem.W.subIn K (.ref C12) (.ref C1) = some false)
    (u12_2 : PySem.W.subIn K (.ref C12) (.ref C2) = some false)
    (u12_3 : PySem.W.subIn K (.ref C12) (.ref C3) = some false)
    (u12_4 : PySem.W.subIn K (.ref C12) (.ref C4) = some false)
    (u12_5 : PySem.W.subIn K (.ref C12) (.ref C5) = some false)
    (u12_6 : PySem.W.subIn K (.ref C12) (.ref C6) = some false)
    (u12_7 : PySem.W.subIn K (.ref C12) (.ref C7) = some false)
    (u12_8 : PySem.W.subIn K (.ref C12) (.ref C8) = some false)
    (u12_9 : PySem.W.subIn K (.ref C12) (.ref C9) = some false)
    (u12_10 : PySem.W.subIn K (.ref C12) (.ref C10) = some false)
    (u12_11 : PySem.W.subIn K (.ref C12) (.ref C11) = some false)
    (u12_12 : PySem.W.subIn K (.ref C12) (.ref C12) = some true)
    (u12_13 : PySem.W.subIn K (.ref C12) (.ref C13) = some false)
    (tC13 : PySem.W.typeIn K (.ref C13) = some (.type "type"))
    (dC13 : PySem.W.hasDictIn K C13 = true)
    (xC13 : K.lookup C13 = some (excClassObj nm_C13 q_C13 C13 N_C13 bs_C13 [.ref C0, .type "ValueError", .type "Exception", .type "BaseException", .type "object"] true sn_C13 sub_C13 ab_C13 col_C13 dd_C13 m0_C13 m1_C13 m2_C13 m3_C13 m5_C13 "ValueError.__new__"))
    (sC13 : PySem.W.findIn K (.ref C13) "__setattr__" = some (some (.builtin "object.__setattr__")))
    (bC13 : PySem.W.subIn K (.ref C13) (.type "BaseException") = some true)
    (kC13 : PySem.W.keepIn K (.ref C13) = true)
    (vC13 : PySem.W.findIn K (.ref C13) "value" = some none)
    (iC13 : PySem.W.findIn K (.ref C13) "__init__" = some (some (.ref fE)))
    (gC13 : PySem.W.findIn K (.ref C13) "__getattribute__" = some (some (.builtin "BaseException.__getattribute__")))
    (hC13 : PySem.W.findIn K (.ref C13) "__getattr__" = some none)
    (lC13 : PySem.W.findIn K (.ref C13) "__class__" = some (some (.builtin "object.__class__")))
    (mC13 : PySem.W.mroIn K C13 (.type "object") = some true)
    (veC13 : PySem.W.subIn K (.ref C13) (.type "ValueError") = some true)
    (u13_0 : PySem.W.subIn K (.ref C13) (.ref C0) = some true)
    (u13_1 : PySem.W.subIn K (.ref C13) (.ref C1) = some false)
    (u13_2 : PySem.W.subIn K (.ref C13) (.ref C2) = some false)
    (u13_3 : PySem.W.subIn K (.ref C13) (.ref C3) = some false)
    (u13_4 : PySem.W.subIn K (.ref C13) (.ref C4) = some false)
    (u13_5 : PySem.W.subIn K (.ref C13) (.ref C5) = some false)
    (u13_6 : PySem.W.subIn K (.ref C13) (.ref C6) = some false)
    (u13_7 : PySem.W.subIn K (.ref C13) (.ref C7) = some false)
    (u13_8 : PySem.W.subIn K (.ref C13) (.ref C8) = some false)
    (u13_9 : PySem.W.subIn K (.ref C13) (.ref C9) = some false)
    (u13_10 : PySem.W.subIn K (.ref C13) (.ref C10) = some false)
    (u13_11 : PySem.W.subIn K (.ref C13) (.ref C11) = some false)
    (u13_12 : PySem.W.subIn K (.ref C13) (.ref C12) = some false)
    (u13_13 : PySem.W.subIn K (.ref C13) (.ref C13) = some true)
    (icN : PySem.W.specialIn K (.builtin "object.__class__") "__get__" = some (some (.builtin "getset_descriptor.__get__")))
    (icT : PySem.W.takesIn K (.builtin "object.__class__") = some true)
    (lE : K.lookup fE = some ⟨ocE, odE, .func (PySem.W.fnOf "__init__" "DueError.__init__" (defArgs sErr) (defBody sErr) (defScope sErr) .none kVE dcE pmE anE cdE ctE), slE⟩)
    (cE : PySem.W.codeIn K cdE "DueError.__init__" = true)
    (kE : PySem.W.keepIn K (.ref fE) = true)
    (tE : PySem.W.typeIn K (.ref fE) = some (.type "function")) :
    ∃ fd : FuncData, (∀ (s : Shared) (v : Value), BindsTo s fd ⟨[v], []⟩ [("script", v)]) ∧ ∀ base : Heap, K.In base → base.Ns mainGlobals mg → FnG l.prog w K mg base 6 fa fd ["script"] (spLaw K) := by
  have e := hfa.symm.trans (PySem.W.mg_of X G a7)
  cases e
  have F_sWell := fun_mk (st := sWell) l0 c0 k0
  have b_sWell := F_sWell.binds (ps := ["script", "place"]) fun _ _ _ _ _ _ us hl => match us, hl with | [_, _], _ => rfl
  have m_sWell := PySem.W.mg_of X G a0
  have k_sWell := k0
  have F_sTake := fun_mk (st := sTake) l1 c1 k1
  have b_sTake := F_sTake.binds (ps := ["well", "many"]) fun _ _ _ _ _ _ us hl => match us, hl with | [_, _], _ => rfl
  have m_sTake := PySem.W.mg_of X G a1
  have k_sTake := k1
  have F_sNumber := fun_mk (st := sNumber) l2 c2 k2
  have b_sNumber := F_sNumber.binds (ps := ["well"]) fun _ _ _ _ _ _ us hl => match us, hl with | [_], _ => rfl
  have m_sNumber := PySem.W.mg_of X G a2
  have k_sNumber := k2
  have F_sRaise := fun_mk (st := sRaise) l3 c3 k3
  have b_sRaise := F_sRaise.binds (ps := ["way", "thing"]) fun _ _ _ _ _ _ us hl => match us, hl with | [_, _], _ => rfl
  have m_sRaise := PySem.W.mg_of X G a3
  have k_sRaise := k3
  have F_sRaiseP := fun_mk (st := sRaiseP) l4 c4 k4
  have b_sRaiseP := F_sRaiseP.binds (ps := ["way", "thing"]) fun _ _ _ _ _ _ us hl => match us, hl with | [_, _], _ => rfl
  have m_sRaiseP := PySem.W.mg_of X G a4
  have k_sRaiseP := k4
  have F_sCaught := fun_mk (st := sCaught) l5 c5 k5
  have b_sCaught := F_sCaught.binds (ps := ["named", "way", "thing"]) fun _ _ _ _ _ _ us hl => match us, hl with | [_, _, _], _ => rfl
  have m_sCaught := PySem.W.mg_of X G a5
  have k_sCaught := k5
  have F_sFits := fun_mk (st := sFits) l6 c6 k6
  have b_sFits := F_sFits.binds (ps := ["well"]) fun _ _ _ _ _ _ us hl => match us, hl with | [_], _ => rfl
  have m_sFits := PySem.W.mg_of X G a6
  have k_sFits := k6
  have F_sLaw := fun_mk (st := sLaw) l7 c7 k7
  have b_sLaw := F_sLaw.binds (ps := ["script"]) fun _ _ _ _ _ _ us hl => match us, hl with | [_], _ => rfl
  have m_sLaw := PySem.W.mg_of X G a7
  have k_sLaw := k7
  have n_int : mg "int" = none := PySem.W.mg_none_of X G z_int
  have n_len : mg "len" = none := PySem.W.mg_none_of X G z_len
  have n_abs : mg "abs" = none := PySem.W.mg_none_of X G z_abs
  have n_max : mg "max" = none := PySem.W.mg_none_of X G z_max
  have n_min : mg "min" = none := PySem.W.mg_none_of X G z_min
  have n_range : mg "range" = none := PySem.W.mg_none_of X G z_range
  have n_repr : mg "repr" = none := PySem.W.mg_none_of X G z_repr
  have n_list : mg "list" = none := PySem.W.mg_none_of X G z_list
  have n_str : mg "str" = none := PySem.W.mg_none_of X G z_str
  have n_isinstance : mg "isinstance" = none := PySem.W.mg_none_of X G z_isinstance
  have n_ValueError : mg "ValueError" = none := PySem.W.mg_none_of X G z_ValueError
  refine ⟨PySem.W.fnOf "law" "law" (defArgs sLaw) (defBody sLaw) (defScope sLaw) .none kV7 dc7 pm7 an7 cd7 ct7, fun s v => .of_eq rfl, fun base _ _ => ?_⟩
  have T : Blt mg := ⟨n_int, n_len, n_abs, n_max, n_min, n_range, n_repr, n_list⟩
  have L : Tk l.prog w K mg base _ _ := ⟨ok_take F_sTake T, m_sTake, k_sTake, b_sTake⟩
  have B : Nb l.prog w K mg base _ _ := ⟨ok_number F_sNumber T L, m_sNumber, k_sNumber, b_sNumber⟩
  have W : At l.prog w K mg base 1 "_law_well" ["script", "place"] (spWell K) _ _ := ⟨ok_well F_sWell T, m_sWell, k_sWell, b_sWell⟩
  have F_sErr := fun_mk (st := sErr) lE cE kE
  have b_sErr := F_sErr.binds (ps := ["self", "value"]) fun _ _ _ _ _ _ us hl => match us, hl with | [_, _], _ => rfl
  have kb := kb_err F_sErr
  have F1 : FnOk l.prog w K mg base CX0 1 fE _ ["self", "value"] (spErr K) := ok_err F_sErr
  have R : Er14 K mg (cl14 C0 C1 C2 C3 C4 C5 C6 C7 C8 C9 C10 C11 C12 C13) fE := by
    refine ⟨fun i i0 i1 => ?_, PySem.W.mg_of X G aC0, PySem.W.mg_of X G aC1, PySem.W.mg_of X G aC2, PySem.W.mg_of X G aC3, PySem.W.mg_of X G aC4, PySem.W.mg_of X G aC5, PySem.W.mg_of X G aC6, PySem.W.mg_of X G aC7, PySem.W.mg_of X G aC8, PySem.W.mg_of X G aC9, PySem.W.mg_of X G aC10, PySem.W.mg_of X G aC11, PySem.W.mg_of X G aC12, PySem.W.mg_of X G aC13, tE, fun i i0 i1 => ?_⟩
    · rcases (show i = 0 ∨ i = 1 ∨ i = 2 ∨ i = 3 ∨ i = 4 ∨ i = 5 ∨ i = 6 ∨ i = 7 ∨ i = 8 ∨ i = 9 ∨ i = 10 ∨ i = 11 ∨ i = 12 ∨ i = 13 by omega) with rfl | rfl | rfl | rfl | rfl | rfl | rfl | rfl | rfl | rfl | rfl | rfl | rfl | rfl
      · exact ⟨⟨⟨_, _, _, _, _, _, _, _, _, _, _, _, _, _, _, xC0, rfl⟩, sC0, bC0, tC0, kC0⟩, vC0, iC0, ⟨gC0, hC0, bC0, dC0, lC0, icN, icT, mC0⟩⟩
      · exact ⟨⟨⟨_, _, _, _, _, _, _, _, _, _, _, _, _, _, _, xC1, rfl⟩, sC1, bC1, tC1, kC1⟩, vC1, iC1, ⟨gC1, hC1, bC1, dC1, lC1, icN, icT, mC1⟩⟩
      · exact ⟨⟨⟨_, _, _, _, _, _, _, _, _, _, _, _, _, _, _, xC2, rfl⟩, sC2, bC2, tC2, kC2⟩, vC2, iC2, ⟨gC2, hC2, bC2, dC2, lC2, icN, icT, mC2⟩⟩
      · exact ⟨⟨⟨_, _, _, _, _, _, _, _, _, _, _, _, _, _, _, xC3, rfl⟩, sC3, bC3, tC3, kC3⟩, vC3, iC3, ⟨gC3, hC3, bC3, dC3, lC3, icN, icT, mC3⟩⟩
      · exact ⟨⟨⟨_, _, _, _, _, _, _, _, _, _, _, _, _, _, _, xC4, rfl⟩, sC4, bC4, tC4, kC4⟩, vC4, iC4, ⟨gC4, hC4, bC4, dC4, lC4, icN, icT, mC4⟩⟩
      · exact ⟨⟨⟨_, _, _, _, _, _, _, _, _, _, _, _, _, _, _, xC5, rfl⟩, sC5, bC5, tC5, kC5⟩, vC5, iC5, ⟨gC5, hC5, bC5, dC5, lC5, icN, icT, mC5⟩⟩
      · exact ⟨⟨⟨_, _, _, _, _, _, _, _, _, _, _, _, _, _, _, xC6, rfl⟩, sC6, bC6, tC6, kC6⟩, vC6, iC6, ⟨gC6, hC6, bC6, dC6, lC6, icN, icT, mC6⟩⟩
      · exact ⟨⟨⟨_, _, _, _, _, _, _, _, _, _, _, _, _, _, _, xC7, rfl⟩, sC7, bC7, tC7, kC7⟩, vC7, iC7, ⟨gC7, hC7, bC7, dC7, lC7, icN, icT, mC7⟩⟩
      · exact ⟨⟨⟨_, _, _, _, _, _, _, _, _, _, _, _, _, _, _, xC8, rfl⟩, sC8, bC8, tC8, kC8⟩, vC8, iC8, ⟨gC8, hC8, bC8, dC8, lC8, icN, icT, mC8⟩⟩
      · exact ⟨⟨⟨_, _, _, _, _, _, _, _, _, _, _, _, _, _, _, xC9, rfl⟩, sC9, bC9, tC9, kC9⟩, vC9, iC9, ⟨gC9, hC9, bC9, dC9, lC9, icN, icT, mC9⟩⟩
      · exact ⟨⟨⟨_, _, _, _, _, _, _, _, _, _, _, _, _, _, _, xC10, rfl⟩, sC10, bC10, tC10, kC10⟩, vC10, iC10, ⟨gC10, hC10, bC10, dC10, lC10, icN, icT, mC10⟩⟩
      · exact ⟨⟨⟨_, _, _, _, _, _, _, _, _, _, _, _, _, _, _, xC11, rfl⟩, sC11, bC11, tC11, kC11⟩, vC11, iC11, ⟨gC11, hC11, bC11, dC11, lC11, icN, icT, mC11⟩⟩
      · exact ⟨⟨⟨_, _, _, _, _, _, _, _, _, _, _, _, _, _, _, xC12, rfl⟩, sC12, bC12, tC12, kC12⟩, vC12, iC12, ⟨gC12, hC12, bC12, dC12, lC12, icN, icT, mC12⟩⟩
      · exact ⟨⟨⟨_, _, _, _, _, _, _, _, _, _, _, _, _, _, _, xC13, rfl⟩, sC13, bC13, tC13, kC13⟩, vC13, iC13, ⟨gC13, hC13, bC13, dC13, lC13, icN, icT, mC13⟩⟩
    · rcases (show i = 0 ∨ i = 1 ∨ i = 2 ∨ i = 3 ∨ i = 4 ∨ i = 5 ∨ i = 6 ∨ i = 7 ∨ i = 8 ∨ i = 9 ∨ i = 10 ∨ i = 11 ∨ i = 12 ∨ i = 13 by omega) with rfl | rfl | rfl | rfl | rfl | rfl | rfl | rfl | rfl | rfl | rfl | rfl | rfl | rfl
      · exact ⟨kit_ne u0_1 u0_0 dC1 tC1, kit_ne u0_2 u0_0 dC2 tC2, kit_ne u0_3 u0_0 dC3 tC3, kit_ne u0_4 u0_0 dC4 tC4, kit_ne u0_5 u0_0 dC5 tC5, kit_ne u0_6 u0_0 dC6 tC6, kit_ne u0_7 u0_0 dC7 tC7, kit_ne u0_8 u0_0 dC8 tC8, kit_ne u0_9 u0_0 dC9 tC9, kit_ne u0_10 u0_0 dC10 tC10, kit_ne u0_11 u0_0 dC11 tC11, kit_ne u0_12 u0_0 dC12 tC12, kit_ne u0_13 u0_0 dC13 tC13, kit_ty veC0 (by decide +kernel), PySem.W.exm_ref bC0 dC0 tC0 u0_0⟩
      · exact ⟨kit_eq, kit_ne u1_2 u1_1 dC2 tC2, kit_ne u1_3 u1_1 dC3 tC3, kit_ne u1_4 u1_1 dC4 tC4, kit_ne u1_5 u1_1 dC5 tC5, kit_ne u1_6 u1_1 dC6 tC6, kit_ne u1_7 u1_1 dC7 tC7, kit_ne u1_8 u1_1 dC8 tC8, kit_ne u1_9 u1_1 dC9 tC9, kit_ne u1_10 u1_1 dC10 tC10, kit_ne u1_11 u1_1 dC11 tC11, kit_ne u1_12 u1_1 dC12 tC12, kit_ne u1_13 u1_1 dC13 tC13, kit_ty veC1 (by decide +kernel), PySem.W.exm_ref bC0 dC0 tC0 u1_0⟩
      · exact ⟨kit_ne u2_1 u2_2 dC1 tC1, kit_eq, kit_ne u2_3 u2_2 dC3 tC3, kit_ne u2_4 u2_2 dC4 tC4, kit_ne u2_5 u2_2 dC5 tC5, kit_ne u2_6 u2_2 dC6 tC6, kit_ne u2_7 u2_2 dC7 tC7, kit_ne u2_8 u2_2 dC8 tC8, kit_ne u2_9 u2_2 dC9 tC9, kit_ne u2_10 u2_2 dC10 tC10, kit_ne u2_11 u2_2 dC11 tC11, kit_ne u2_12 u2_2 dC12 tC12, kit_ne u2_13 u2_2 dC13 tC13, kit_ty veC2 (by decide +kernel), PySem.W.exm_ref bC0 dC0 tC0 u2_0⟩
      · exact ⟨kit_ne u3_1 u3_3 dC1 tC1, kit_ne u3_2 u3_3 dC2 tC2, kit_eq, kit_ne u3_4 u3_3 dC4 tC4, kit_ne u3_5 u3_3 dC5 tC5, kit_ne u3_6 u3_3 dC6 tC6, kit_ne u3_7 u3_3 dC7 tC7, kit_ne u3_8 u3_3 dC8 tC8, kit_ne u3_9 u3_3 dC9 tC9, kit_ne u3_10 u3_3 dC10 tC10, kit_ne u3_11 u3_3 dC11 tC11, kit_ne u3_12 u3_3 dC12 tC12, kit_ne u3_13 u3_3 dC13 tC13, kit_ty veC3 (by decide +kernel), PySem.W.exm_ref bC0 dC0 tC0 u3_0⟩
      · exact ⟨kit_ne u4_1 u4_4 dC1 tC1, kit_ne u4_2 u4_4 dC2 tC2, kit_ne u4_3 u4_4 dC3 tC3, kit_eq, kit_ne u4_5 u4_4 dC5 tC5, kit_ne u4_6 u4_4 dC6 tC6, kit_ne u4_7 u4_4 dC7 tC7, kit_ne u4_8 u4_4 dC8 tC8, kit_ne u4_9 u4_4 dC9 tC9, kit_ne u4_10 u4_4 dC10 tC10, kit_ne u4_11 u4_4 dC11 tC11, kit_ne u4_12 u4_4 dC12 tC12, kit_ne u4_13 u4_4 dC13 tC13, kit_ty veC4 (by decide +kernel), PySem.W.exm_ref bC0 dC0 tC0 u4_0⟩
      · exact ⟨kit_ne u5_1 u5_5 dC1 tC1, kit_ne u5_2 u5_5 dC2 tC2, kit_ne u5_3 u5_5 dC3 tC3, kit_ne u5_4 u5_5 dC4 tC4, kit_eq, kit_ne u5_6 u5_5 dC6 tC6, kit_ne u5_7 u5_5 dC7 tC7, kit_ne u5_8 u5_5 dC8 tC8, kit_ne u5_9 u5_5 dC9 tC9, kit_ne u5_10 u5_5 dC10 tC10, kit_ne u5_11 u5_5 dC11 tC11, kit_ne u5_12 u5_5 dC12 tC12, kit_ne u5_13 u5_5 dC13 tC13, kit_ty veC5 (by decide +kernel), PySem.W.exm_ref bC0 dC0 tC0 u5_0⟩
      · exact ⟨kit_ne u6_1 u6_6 dC1 tC1, kit_ne u6_2 u6_6 dC2 tC2, kit_ne u6_3 u6_6 dC3 tC3, kit_ne u6_4 u6_6 dC4 tC4, kit_ne u6_5 u6_6 dC5 tC5, kit_eq, kit_ne u6_7 u6_6 dC7 tC7, kit_ne u6_8 u6_6 dC8 tC8, kit_ne u6_9 u6_6 dC9 tC9, kit_ne u6_10 u6_6 dC10 tC10, kit_ne u6_11 u6_6 dC11 tC11, kit_ne u6_12 u6_6 dC12 tC12, kit_ne u6_13 u6_6 dC13 tC13, kit_ty veC6 (by decide +kernel), PySem.W.exm_ref bC0 dC0 tC0 u6_0⟩
      · exact ⟨kit_ne u7_1 u7_7 dC1 tC1, kit_ne u7_2 u7_7 dC2 tC2, kit_ne u7_3 u7_7 dC3 tC3, kit_ne u7_4 u7_7 dC4 tC4, kit_ne u7_5 u7_7 dC5 tC5, kit_ne u7_6 u7_7 dC6 tC6, kit_eq, kit_ne u7_8 u7_7 dC8 tC8, kit_ne u7_9 u7_7 dC9 tC9, kit_ne u7_10 u7_7 dC10 tC10, kit_ne u7_11 u7_7 dC11 tC11, kit_ne u7_12 u7_7 dC12 tC12, kit_ne u7_13 u7_7 dC13 tC13, kit_ty veC7 (by decide +kernel), PySem.W.exm_ref bC0 dC0 tC0 u7_0⟩
      · exact ⟨kit_ne u8_1 u8_8 dC1 tC1, kit_ne u8_2 u8_8 dC2 tC2, kit_ne u8_3 u8_8 dC3 tC3, kit_ne u8_4 u8_8 dC4 tC4, kit_ne u8_5 u8_8 dC5 tC5, kit_ne u8_6 u8_8 dC6 tC6, kit_ne u8_7 u8_8 dC7 tC7, kit_eq, kit_ne u8_9 u8_8 dC9 tC9, kit_ne u8_10 u8_8 dC10 tC10, kit_ne u8_11 u8_8 dC11 tC11, kit_ne u8_12 u8_8 dC12 tC12, kit_ne u8_13 u8_8 dC13 tC13, kit_ty veC8 (by decide +kernel), PySem.W.exm_ref bC0 dC0 tC0 u8_0⟩
      · exact ⟨kit_ne u9_1 u9_9 dC1 tC1, kit_ne u9_2 u9_9 dC2 tC2, kit_ne u9_3 u9_9 dC3 tC3, kit_ne u9_4 u9_9 dC4 tC4, kit_ne u9_5 u9_9 dC5 tC5, kit_ne u9_6 u9_9 dC6 tC6, kit_ne u9_7 u9_9 dC7 tC7, kit_ne u9_8 u9_9 dC8 tC8, kit_eq, kit_ne u9_10 u9_9 dC10 tC10, kit_ne u9_11 u9_9 dC11 tC11, kit_ne u9_12 u9_9 dC12 tC12, kit_ne u9_13 u9_9 dC13 tC13, kit_ty veC9 (by decide +kernel), PySem.W.exm_ref bC0 dC0 tC0 u9_0⟩
      · exact ⟨kit_ne u10_1 u10_10 dC1 tC1, kit_ne u10_2 u10_10 dC2 tC2, kit_ne u10_3 u10_10 dC3 tC3, kit_ne u10_4 u10_10 dC4 tC4, kit_ne u10_5 u10_10 dC5 tC5, kit_ne u10_6 u10_10 dC6 tC6, kit_ne u10_7 u10_10 dC7 tC7, kit_ne u10_8 u10_10 dC8 tC8, kit_ne u10_9 u10_10 dC9 tC9, kit_eq, kit_ne u10_11 u10_10 dC11 tC11, kit_ne u10_12 u10_10 dC12 tC12, kit_ne u10_13 u10_10 dC13 tC13, kit_ty veC10 (by decide +kernel), PySem.W.exm_ref bC0 dC0 tC0 u10_0⟩
      · exact ⟨kit_ne u11_1 u11_11 dC1 tC1, kit_ne u11_2 u11_11 dC2 tC2, kit_ne u11_3 u11_11 dC3 tC3, kit_ne u11_4 u11_11 dC4 tC4, kit_ne u11_5 u11_11 dC5 tC5, kit_ne u11_6 u11_11 dC6 tC6, kit_ne u11_7 u11_11 dC7 tC7, kit_ne u11_8 u11_11 dC8 tC8, kit_ne u11_9 u11_11 dC9 tC9, kit_ne u11_10 u11_11 dC10 tC10, kit_eq, kit_ne u11_12 u11_11 dC12 tC12, kit_ne u11_13 u11_11 dC13 tC13, kit_ty veC11 (by decide +kernel), PySem.W.exm_ref bC0 dC0 tC0 u11_0⟩
      · exact ⟨kit_ne u12_1 u12_12 dC1 tC1, kit_ne u12_2 u12_12 dC2 tC2, kit_ne u12_3 u12_12 dC3 tC3, kit_ne u12_4 u12_12 dC4 tC4, kit_ne u12_5 u12_12 dC5 tC5, kit_ne u12_6 u12_12 dC6 tC6, kit_ne u12_7 u12_12 dC7 tC7, kit_ne u12_8 u12_12 dC8 tC8, kit_ne u12_9 u12_12 dC9 tC9, kit_ne u12_10 u12_12 dC10 tC10, kit_ne u12_11 u12_12 dC11 tC11, kit_eq, kit_ne u12_13 u12_12 dC13 tC13, kit_ty veC12 (by decide +kernel), PySem.W.exm_ref bC0 dC0 tC0 u12_0⟩
      · exact ⟨kit_ne u13_1 u13_13 dC1 tC1, kit_ne u13_2 u13_13 dC2 tC2, kit_ne u13_3 u13_13 dC3 tC3, kit_ne u13_4 u13_13 dC4 tC4, kit_ne u13_5 u13_13 dC5 tC5, kit_ne u13_6 u13_13 dC6 tC6, kit_ne u13_7 u13_13 dC7 tC7, kit_ne u13_8 u13_13 dC8 tC8, kit_ne u13_9 u13_13 dC9 tC9, kit_ne u13_10 u13_13 dC10 tC10, kit_ne u13_11 u13_13 dC11 tC11, kit_ne u13_12 u13_13 dC12 tC12, kit_eq, kit_ty veC13 (by decide +kernel), PySem.W.exm_ref bC0 dC0 tC0 u13_0⟩
  have Ra : AtX l.prog w K mg base 3 "_law_raise" ["way", "thing"] (spRs (cl14 C0 C1 C2 C3 C4 C5 C6 C7 C8 C9 C10 C11 C12 C13)) _ _ := ⟨ok_raise F_sRaise R F1 b_sErr kb, m_sRaise, k_sRaise, b_sRaise⟩
  have Rb : AtX l.prog w K mg base 3 "_law_raise_plain" ["way", "thing"] (spRs (cl14 C0 C1 C2 C3 C4 C5 C6 C7 C8 C9 C10 C11 C12 C13)) _ _ := ⟨ok_raiseP F_sRaiseP R F1 b_sErr kb, m_sRaiseP, k_sRaiseP, b_sRaiseP⟩
  have Ca : At l.prog w K mg base 4 "_law_caught" ["named", "way", "thing"] (spCaught (cl14 C0 C1 C2 C3 C4 C5 C6 C7 C8 C9 C10 C11 C12 C13)) _ _ := ⟨ok_caught F_sCaught R n_isinstance n_ValueError Ra Rb, m_sCaught, k_sCaught, b_sCaught⟩
  have GF : FnG l.prog w K mg base 5 _ _ ["well"] spFits := ok_fits F_sFits T n_str L B Ca
  exact ok_law (by decide) F_sLaw T W GF m_sFits k_sFits b_sFits
end
end DK
open PySem PySem.W PyProof.Rows
set_option maxRecDepth 100000 in
set_option maxHeartbeats 0 in
theorem PySem.Challenge.cw_dueclocks_k01_errors_keep_their_value_holds : PySem.Challenge.rw_dueclocks_k01_errors_keep_their_value.Holds := by
  w_on; o_law; k_head; (case hw => w_witness2)
  k_fill
  refine DK.walkG (l := PySem.Challenge.rw_dueclocks_k01_errors_keep_their_value) (n := 63) (k := 6) (x := "script") (sp := DK.spLaw) rfl (by decide) rfl ⟨rfl, by decide, by decide⟩ (fun w h Y => PySem.W.kIn_of Y) ?F (fun J H a ns hl hO hS => ⟨a, ns, rfl, DK.Scr.of hO hS, hl, fun _ => rfl⟩)
  case F =>
    intro w mg fa h KX G hmg
    refine' DK.all_mk KX G hmg ?a0 ?l0 ?c0 ?k0 ?a1 ?l1 ?c1 ?k1 ?a2 ?l2 ?c2 ?k2 ?a3 ?l3 ?c3 ?k3 ?a4 ?l4 ?c4 ?k4 ?a5 ?l5 ?c5 ?k5 ?a6 ?l6 ?c6 ?k6 ?a7 ?l7 ?c7 ?k7 ?z_int ?z_len ?z_abs ?z_max ?z_min ?z_range ?z_repr ?z_list ?z_str ?z_isinstance ?z_ValueError ?aC0 ?aC1 ?aC2 ?aC3 ?aC4 ?aC5 ?aC6 ?aC7 ?aC8 ?aC9 ?aC10 ?aC11 ?aC12 ?aC13 ?tC0 ?dC0 ?xC0 ?sC0 ?bC0 ?kC0 ?vC0 ?iC0 ?gC0 ?hC0 ?lC0 ?mC0 ?veC0 ?u0_0 ?u0_1 ?u0_2 ?u0_3 ?u0_4 ?u0_5 ?u0_6 ?u0_7 ?u0_8 ?u0_9 ?u0_10 ?u0_11 ?u0_12 ?u0_13 ?tC1 ?dC1 ?xC1 ?sC1 ?bC1 ?kC1 ?vC1 ?iC1 ?gC1 ?hC1 ?lC1 ?mC1 ?veC1 ?u1_0 ?u1_1 ?u1_2 ?u1_3 ?u1_4 ?u1_5 ?u1_6 ?u1_7 ?u1_8 ?u1_9 ?u1_10 ?u1_11 ?u1_12 ?u1_13 ?tC2 ?dC2 ?xC2 ?sC2 ?bC2 ?kC2 ?vC2 ?iC2 ?gC2 ?hC2 ?lC2 ?mC2 ?veC2 ?u2_0 ?u2_1 ?u2_2 ?u2_3 ?u2_4 ?u2_5 ?u2_6 ?u2_7 ?u2_8 ?u2_9 ?u2_10 ?u2_11 ?u2_12 ?u2_13 ?tC3 ?dC3 ?xC3 ?sC3 ?bC3 ?kC3 ?vC3 ?iC3 ?gC3 ?hC3 ?lC3 ?mC3 ?veC3 ?u3_0 ?u3_1 ?u3_2 ?u3_3 ?u3_4 ?u3_5 ?u3_6 ?u3_7 ?u3_8 ?u3_9 ?u3_10 ?u3_11 ?u3_12 ?u3_13 ?tC4 ?dC4 ?xC4 ?sC4 ?bC4 ?kC4 ?vC4 ?iC4 ?gC4 ?hC4 ?lC4 ?mC4 ?veC4 ?u4_0 ?u4_1 ?u4_2 ?u4_3 ?u4_4 ?u4_5 ?u4_6 ?u4_7 ?u4_8 ?u4_9 ?u4_10 ?u4_11 ?u4_12 ?u4_13 ?tC5 ?dC5 ?xC5 ?sC5 ?bC5 ?kC5 ?vC5 ?iC5 ?gC5 ?hC5 ?lC5 ?mC5 ?veC5 ?u5_0 ?u5_1 ?u5_2 ?u5_3 ?u5_4 ?u5_5 ?u5_6 ?u5_7 ?u5_8 ?u5_9 ?u5_10 ?u5_11 ?u5_12 ?u5_13 ?tC6 ?dC6 ?xC6 ?sC6 ?bC6 ?kC6 ?vC6 ?iC6 ?gC6 ?hC6 ?lC6 ?mC6 ?veC6 ?u6_0 ?u6_1 ?u6_2 ?u6_3 ?u6_4 ?u6_5 ?u6_6 ?u6_7 ?u6_8 ?u6_9 ?u6_10 ?u6_11 ?u6_12 ?u6_13 ?tC7 ?dC7 ?xC7 ?sC7 ?bC7 ?kC7 ?vC7 ?iC7 ?gC7 ?hC7 ?lC7 ?mC7 ?veC7 ?u7_0 ?u7_1 ?u7_2 ?u7_3 ?u7_4 ?u7_5 ?u7_6 ?u7_7 ?u7_8 ?u7_9 ?u7_10 ?u7_11 ?u7_12 ?u7_13 ?tC8 ?dC8 ?xC8 ?sC8 ?bC8 ?kC8 ?vC8 ?iC8 ?gC8 ?hC8 ?lC8 ?mC8 ?veC8 ?u8_0 ?u8_1 ?u8_2 ?u8_3 ?u8_4 ?u8_5 ?u8_6 ?u8_7 ?u8_8 ?u8_9 ?u8_10 ?u8_11 ?u8_12 ?u8_13 ?tC9 ?dC9 ?xC9 ?sC9 ?bC9 ?kC9 ?vC9 ?iC9 ?gC9 ?hC9 ?lC9 ?mC9 ?veC9 ?u9_0 ?u9_1 ?u9_2 ?u9_3 ?u9_4 ?u9_5 ?u9_6 ?u9_7 ?u9_8 ?u9_9 ?u9_10 ?u9_11 ?u9_12 ?u9_13 ?tC10 ?dC10 ?xC10 ?sC10 ?bC10 ?kC10 ?vC10 ?iC10 ?gC10 ?hC10 ?lC10 ?mC10 ?veC10 ?u10_0 ?u10_1 ?u10_2 ?u10_3 ?u10_4 ?u10_5 ?u10_6 ?u10_7 ?u10_8 ?u10_9 ?u10_10 ?u10_11 ?u10_12 ?u10_13 ?tC11 ?dC11 ?xC11 ?sC11 ?bC11 ?kC11 ?vC11 ?iC11 ?gC11 ?hC11 ?lC11 ?mC11 ?veC11 ?u11_0 ?u11_1 ?u11_2 ?u11_3 ?u11_4 ?u11_5 ?u11_6 ?u11_7 ?u11_8 ?u11_9 ?u11_10 ?u11_11 ?u11_12 ?u11_13 ?tC12 ?dC12 ?xC12 ?sC12 ?bC12 ?kC12 ?vC12 ?iC12 ?gC12 ?hC12 ?lC12 ?mC12 ?veC12 ?u12_0 ?u12_1 ?u12_2 ?u12_3 ?u12_4 ?u12_5 ?u12_6 ?u12_7 ?u12_8 ?u12_9 ?u12_10 ?u12_11 ?u12_12 ?u12_13 ?tC13 ?dC13 ?xC13 ?sC13 ?bC13 ?kC13 ?vC13 ?iC13 ?gC13 ?hC13 ?lC13 ?mC13 ?veC13 ?u13_0 ?u13_1 ?u13_2 ?u13_3 ?u13_4 ?u13_5 ?u13_6 ?u13_7 ?u13_8 ?u13_9 ?u13_10 ?u13_11 ?u13_12 ?u13_13 ?icN ?icT ?lE ?cE ?kE ?tE
    (case a0 => k_is)
    (case l0 => k_is)
    (case c0 => k_is)
    (case k0 => k_is)
    (case a1 => k_is)
    (case l1 => k_is)
    (case c1 => k_is)
    (case k1 => k_is)
    (case a2 => k_is)
    (case l2 => k_is)
    (case c2 => k_is)
    (case k2 => k_is)
    (case a3 => k_is)
    (case l3 => k_is)
    (case c3 => k_is)
    (case k3 => k_is)
    (case a4 => k_is)
    (case l4 => k_is)
    (case c4 => k_is)
    (case k4 => k_is)
    (case a5 => k_is)
    (case l5 => k_is)
    (case c5 => k_is)
    (case k5 => k_is)
    (case a6 => k_is)
    (case l6 => k_is)
    (case c6 => k_is)
    (case k6 => k_is)
    (case a7 => k_is)
    (case l7 => k_is)
    (case c7 => k_is)
    (case k7 => k_is)
    (case z_int => k_is)
    (case z_len => k_is)
    (case z_abs => k_is)
    (case z_max => k_is)
    (case z_min => k_is)
    (case z_range => k_is)
    (case z_repr => k_is)
    (case z_list => k_is)
    (case z_str => k_is)
    (case z_isinstance => k_is)
    (case z_ValueError => k_is)
    (case aC0 => k_is)
    (case aC1 => k_is)
    (case aC2 => k_is)
    (case aC3 => k_is)
    (case aC4 => k_is)
    (case aC5 => k_is)
    (case aC6 => k_is)
    (case aC7 => k_is)
    (case aC8 => k_is)
    (case aC9 => k_is)
    (case aC10 => k_is)
    (case aC11 => k_is)
    (case aC12 => k_is)
    (case aC13 => k_is)
    (case tC0 => k_is)
    (case dC0 => k_is)
    (case xC0 => k_is)
    (case sC0 => k_is)
    (case bC0 => k_is)
    (case kC0 => k_is)
    (case vC0 => k_is)
    (case iC0 => k_is)
    (case gC0 => k_is)
    (case hC0 => k_is)
    (case lC0 => k_is)
    (case mC0 => k_is)
    (case veC0 => k_is)
    (case u0_0 => k_is)
    (case u0_1 => k_is)
    (case u0_2 => k_is)
    (case u0_3 => k_is)
    (case u0_4 => k_is)
    (case u0_5 => k_is)
    (case u0_6 => k_is)
    (case u0_7 => k_is)
    (case u0_8 => k_is)
    (case u0_9 => k_is)
    (case u0_10 => k_is)
    (case u0_11 => k_is)
    (case u0_12 => k_is)
    (case u0_13 => k_is)
    (case tC1 => k_is)
    (case dC1 => k_is)
    (case xC1 => k_is)
    (case sC1 => k_is)
    (case bC1 => k_is)
    (case kC1 => k_is)
    (case vC1 => k_is)
    (case iC1 => k_is)
    (case gC1 => k_is)
    (case hC1 => k_is)
    (case lC1 => k_is)
    (case mC1 => k_is)
    (case veC1 => k_is)
    (case u1_0 => k_is)
    (case u1_1 => k_is)
    (case u1_2 => k_is)
    (case u1_3 => k_is)
    (case u1_4 => k_is)
    (case u1_5 => k_is)
    (case u1_6 => k_is)
    (case u1_7 => k_is)
    (case u1_8 => k_is)
    (case u1_9 => k_is)
    (case u1_10 => k_is)
    (case u1_11 => k_is)
    (case u1_12 => k_is)
    (case u1_13 => k_is)
    (case tC2 => k_is)
    (case dC2 => k_is)
    (case xC2 => k_is)
    (case sC2 => k_is)
    (case bC2 => k_is)
    (case kC2 => k_is)
    (case vC2 => k_is)
    (case iC2 => k_is)
    (case gC2 => k_is)
    (case hC2 => k_is)
    (case lC2 => k_is)
    (case mC2 => k_is)
    (case veC2 => k_is)
    (case u2_0 => k_is)
    (case u2_1 => k_is)
    (case u2_2 => k_is)
    (case u2_3 => k_is)
    (case u2_4 => k_is)
    (case u2_5 => k_is)
    (case u2_6 => k_is)
    (case u2_7 => k_is)
    (case u2_8 => k_is)
    (case u2_9 => k_is)
    (case u2_10 => k_is)
    (case u2_11 => k_is)
    (case u2_12 => k_is)
    (case u2_13 => k_is)
    (case tC3 => k_is)
    (case dC3 => k_is)
    (case xC3 => k_is)
    (case sC3 => k_is)
    (case bC3 => k_is)
    (case kC3 => k_is)
    (case vC3 => k_is)
    (case iC3 => k_is)
    (case gC3 => k_is)
    (case hC3 => k_is)
    (case lC3 => k_is)
    (case mC3 => k_is)
    (case veC3 => k_is)
    (case u3_0 => k_is)
    (case u3_1 => k_is)
    (case u3_2 => k_is)
    (case u3_3 => k_is)
    (case u3_4 => k_is)
    (case u3_5 => k_is)
    (case u3_6 => k_is)
    (case u3_7 => k_is)
    (case u3_8 => k_is)
    (case u3_9 => k_is)
    (case u3_10 => k_is)
    (case u3_11 => k_is)
    (case u3_12 => k_is)
    (case u3_13 => k_is)
    (case tC4 => k_is)
    (case dC4 => k_is)
    (case xC4 => k_is)
    (case sC4 => k_is)
    (case bC4 => k_is)
    (case kC4 => k_is)
    (case vC4 => k_is)
    (case iC4 => k_is)
    (case gC4 => k_is)
    (case hC4 => k_is)
    (case lC4 => k_is)
    (case mC4 => k_is)
    (case veC4 => k_is)
    (case u4_0 => k_is)
    (case u4_1 => k_is)
    (case u4_2 => k_is)
    (case u4_3 => k_is)
    (case u4_4 => k_is)
    (case u4_5 => k_is)
    (case u4_6 => k_is)
    (case u4_7 => k_is)
    (case u4_8 => k_is)
    (case u4_9 => k_is)
    (case u4_10 => k_is)
    (case u4_11 => k_is)
    (case u4_12 => k_is)
    (case u4_13 => k_is)
    (case tC5 => k_is)
    (case dC5 => k_is)
    (case xC5 => k_is)
    (case sC5 => k_is)
    (case bC5 => k_is)
    (case kC5 => k_is)
    (case vC5 => k_is)
    (case iC5 => k_is)
    (case gC5 => k_is)
    (case hC5 => k_is)
    (case lC5 => k_is)
    (case mC5 => k_is)
    (case veC5 => k_is)
    (case u5_0 => k_is)
    (case u5_1 => k_is)
    (case u5_2 => k_is)
    (case u5_3 => k_is)
    (case u5_4 => k_is)
    (case u5_5 => k_is)
    (case u5_6 => k_is)
    (case u5_7 => k_is)
    (case u5_8 => k_is)
    (case u5_9 => k_is)
    (case u5_10 => k_is)
    (case u5_11 => k_is)
    (case u5_12 => k_is)
    (case u5_13 => k_is)
    (case tC6 => k_is)
    (case dC6 => k_is)
    (case xC6 => k_is)
    (case sC6 => k_is)
    (case bC6 => k_is)
    (case kC6 => k_is)
    (case vC6 => k_is)
    (case iC6 => k_is)
    (case gC6 => k_is)
    (case hC6 => k_is)
    (case lC6 => k_is)
    (case mC6 => k_is)
    (case veC6 => k_is)
    (case u6_0 => k_is)
    (case u6_1 => k_is)
    (case u6_2 => k_is)
    (case u6_3 => k_is)
    (case u6_4 => k_is)
    (case u6_5 => k_is)
    (case u6_6 => k_is)
    (case u6_7 => k_is)
    (case u6_8 => k_is)
    (case u6_9 => k_is)
    (case u6_10 => k_is)
    (case u6_11 => k_is)
    (case u6_12 => k_is)
    (case u6_13 => k_is)
    (case tC7 => k_is)
    (case dC7 => k_is)
    (case xC7 => k_is)
    (case sC7 => k_is)
    (case bC7 => k_is)
    (case kC7 => k_is)
    (case vC7 => k_is)
    (case iC7 => k_is)
    (case gC7 => k_is)
    (case hC7 => k_is)
    (case lC7 => k_is)
    (case mC7 => k_is)
    (case veC7 => k_is)
    (case u7_0 => k_is)
    (case u7_1 => k_is)
    (case u7_2 => k_is)
    (case u7_3 => k_is)
    (case u7_4 => k_is)
    (case u7_5 => k_is)
    (case u7_6 => k_is)
    (case u7_7 => k_is)
    (case u7_8 => k_is)
    (case u7_9 => k_is)
    (case u7_10 => k_is)
    (case u7_11 => k_is)
    (case u7_12 => k_is)
    (case u7_13 => k_is)
    (case tC8 => k_is)
    (case dC8 => k_is)
    (case xC8 => k_is)
    (case sC8 => k_is)
    (case bC8 => k_is)
    (case kC8 => k_is)
    (case vC8 => k_is)
    (case iC8 => k_is)
    (case gC8 => k_is)
    (case hC8 => k_is)
    (case lC8 => k_is)
    (case mC8 => k_is)
    (case veC8 => k_is)
    (case u8_0 => k_is)
    (case u8_1 => k_is)
    (case u8_2 => k_is)
    (case u8_3 => k_is)
    (case u8_4 => k_is)
    (case u8_5 => k_is)
    (case u8_6 => k_is)
    (case u8_7 => k_is)
    (case u8_8 => k_is)
    (case u8_9 => k_is)
    (case u8_10 => k_is)
    (case u8_11 => k_is)
    (case u8_12 => k_is)
    (case u8_13 => k_is)
    (case tC9 => k_is)
    (case dC9 => k_is)
    (case xC9 => k_is)
    (case sC9 => k_is)
    (case bC9 => k_is)
    (case kC9 => k_is)
    (case vC9 => k_is)
    (case iC9 => k_is)
    (case gC9 => k_is)
    (case hC9 => k_is)
    (case lC9 => k_is)
    (case mC9 => k_is)
    (case veC9 => k_is)
    (case u9_0 => k_is)
    (case u9_1 => k_is)
    (case u9_2 => k_is)
    (case u9_3 => k_is)
    (case u9_4 => k_is)
    (case u9_5 => k_is)
    (case u9_6 => k_is)
    (case u9_7 => k_is)
    (case u9_8 => k_is)
    (case u9_9 => k_is)
    (case u9_10 => k_is)
    (case u9_11 => k_is)
    (case u9_12 => k_is)
    (case u9_13 => k_is)
    (case tC10 => k_is)
    (case dC10 => k_is)
    (case xC10 => k_is)
    (case sC10 => k_is)
    (case bC10 => k_is)
    (case kC10 => k_is)
    (case vC10 => k_is)
    (case iC10 => k_is)
    (case gC10 => k_is)
    (case hC10 => k_is)
    (case lC10 => k_is)
    (case mC10 => k_is)
    (case veC10 => k_is)
    (case u10_0 => k_is)
    (case u10_1 => k_is)
    (case u10_2 => k_is)
    (case u10_3 => k_is)
    (case u10_4 => k_is)
    (case u10_5 => k_is)
    (case u10_6 => k_is)
    (case u10_7 => k_is)
    (case u10_8 => k_is)
    (case u10_9 => k_is)
    (case u10_10 => k_is)
    (case u10_11 => k_is)
    (case u10_12 => k_is)
    (case u10_13 => k_is)
    (case tC11 => k_is)
    (case dC11 => k_is)
    (case xC11 => k_is)
    (case sC11 => k_is)
    (case bC11 => k_is)
    (case kC11 => k_is)
    (case vC11 => k_is)
    (case iC11 => k_is)
    (case gC11 => k_is)
    (case hC11 => k_is)
    (case lC11 => k_is)
    (case mC11 => k_is)
    (case veC11 => k_is)
    (case u11_0 => k_is)
    (case u11_1 => k_is)
    (case u11_2 => k_is)
    (case u11_3 => k_is)
    (case u11_4 => k_is)
    (case u11_5 => k_is)
    (case u11_6 => k_is)
    (case u11_7 => k_is)
    (case u11_8 => k_is)
    (case u11_9 => k_is)
    (case u11_10 => k_is)
    (case u11_11 => k_is)
    (case u11_12 => k_is)
    (case u11_13 => k_is)
    (case tC12 => k_is)
    (case dC12 => k_is)
    (case xC12 => k_is)
    (case sC12 => k_is)
    (case bC12 => k_is)
    (case kC12 => k_is)
    (case vC12 => k_is)
    (case iC12 => k_is)
    (case gC12 => k_is)
    (case hC12 => k_is)
    (case lC12 => k_is)
    (case mC12 => k_is)
    (case veC12 => k_is)
    (case u12_0 => k_is)
    (case u12_1 => k_is)
    (case u12_2 => k_is)
    (case u12_3 => k_is)
    (case u12_4 => k_is)
    (case u12_5 => k_is)
    (case u12_6 => k_is)
    (case u12_7 => k_is)
    (case u12_8 => k_is)
    (case u12_9 => k_is)
    (case u12_10 => k_is)
    (case u12_11 => k_is)
    (case u12_12 => k_is)
    (case u12_13 => k_is)
    (case tC13 => k_is)
    (case dC13 => k_is)
    (case xC13 => k_is)
    (case sC13 => k_is)
    (case bC13 => k_is)
    (case kC13 => k_is)
    (case vC13 => k_is)
    (case iC13 => k_is)
    (case gC13 => k_is)
    (case hC13 => k_is)
    (case lC13 => k_is)
    (case mC13 => k_is)
    (case veC13 => k_is)
    (case u13_0 => k_is)
    (case u13_1 => k_is)
    (case u13_2 => k_is)
    (case u13_3 => k_is)
    (case u13_4 => k_is)
    (case u13_5 => k_is)
    (case u13_6 => k_is)
    (case u13_7 => k_is)
    (case u13_8 => k_is)
    (case u13_9 => k_is)
    (case u13_10 => k_is)
    (case u13_11 => k_is)
    (case u13_12 => k_is)
    (case u13_13 => k_is)
    (case icN => k_is)
    (case icT => k_is)
    (case lE => k_is)
    (case cE => k_is)
    (case kE => k_is)
    (case tE => k_is)

