import PyProof.Rows.All
import Wide.All
import OpenK.AllK
import Wide.FinOn
import PyProof.EqAt
import PyProof.EqKinds
import PyProof.TupleCall
import KE.BitLaws
import Open.SpecLaws
import KE.OsHead
import KE.OsGo
import PySem.Challenge.RW_turnshares_s01_answers
set_option Elab.async false
set_option linter.all false
set_option maxRecDepth 100000
/-! ### the top of the program, run once: what it leaves -/
namespace TH
open PySem PySem.W PyProof.Rows
/-- the text cut down to the def that is asked -/
def qv : Program := view PySem.Challenge.pw_turnshares_s01_answers [63]
def lo : List Str := (["WORD", "G", "LAST_TRY", "stirred", "stirred_in", "raw_number", "draw", "shuffled", "picked", "GREATEST_COST", "GREATEST_WEIGHT", "Job", "Player", "Session", "NOT_IN_RANGE", "NOT_THERE", "THERE_ALREADY", "NOTHING", "NO_PLACE", "SEEDS", "BUDGETS", "QUANTUMS", "PLAYERS", "WEIGHTS", "THINGS", "COSTS", "SIDES", "TICKS_AT_ONCE", "TICKS", "COUNTS", "SHUFFLED", "ROW_LENGTHS", "ROW_WEIGHTS", "MOST_PLAYERS", "MOST_JOBS", "LAST_TICK", "HALF_WORD", "all_within", "answer_begin", "answer_join", "answer_leave", "answer_job", "answer_drop", "answer_tick", "answer_queue", "answer_players", "answer_weigh", "answer_draw", "answer_raw", "answer_shuffle", "answer_pick", "answer_bound", "answer_try", "answer_state", "ANSWERS", "answer", "LENGTHS", "PICK", "end_of_call"] : List String).map Str.ofString
def xt (s : Shared) : Bool := xlAt qv [] s && recOk [] s
def tp (i : Nat) : Stmt := PySem.Challenge.pw_turnshares_s01_answers.main.body.getD i (.Pass ⟨0, 0, 0, 0⟩)
def cl (i j : Nat) : Stmt := match tp i with
  | .ClassDef _ _ _ b _ _ _ _ _ _ _ => b.getD j (.Pass ⟨0, 0, 0, 0⟩)
  | _ => .Pass ⟨0, 0, 0, 0⟩
def dA : Stmt → Arguments
  | .FunctionDef _ a _ _ _ _ _ _ _ _ => a
  | _ => { posonlyargs := [], args := [], vararg := none, kwonlyargs := [], kw_defaults := [], kwarg := none, defaults := [] }
def dB : Stmt → List Stmt
  | .FunctionDef _ _ b _ _ _ _ _ _ _ => b
  | _ => []
def dS : Stmt → Scope
  | .FunctionDef _ _ _ _ _ _ sc _ _ _ => sc
  | _ => { kind := .function, names := [], isGenerator := false, isCoroutine := false }
def fo (x q : String) (st : Stmt) (m : String) (t c : Nat) : Obj := ⟨.type "function", none, .func (fnOf x q (dA st) (dB st) (dS st) .none .none .none (.str m t) none (.ref c) .none), #[]⟩
def en (P : Params) (x : String) (t : Nat) (v : Value) : DictEntry := ⟨PyData.keyHash P x, .str x t, v⟩
/-- the objects that the top leaves and the proof looks at -/
def KK (P : Params) : Frag :=
  (nat_lit 3, ⟨.type "dict", none, .dict (en P "__name__" 165 (.str "turnshares.world" 743) :: en P "__doc__" 166 .none :: en P "__package__" 167 .none :: en P "__loader__" 168 (.builtin "__main__.__loader__#opaque") :: en P "__spec__" 169 .none :: en P "__annotations__" 170 (.ref 6) :: en P "__builtins__" 171 (.ref 4) :: en P "__file__" 173 (.str "/claim/cut.py" 172) :: en P "__cached__" 174 .none :: en P "WORD" 190 (.int 18446744073709551616 189) :: en P "G" 192 (.int 11400714819323198485 191) :: en P "LAST_TRY" 194 (.int 64 193) :: en P "stirred" 203 (.ref 21) :: en P "stirred_in" 211 (.ref 28) :: en P "raw_number" 224 (.ref 35) :: en P "draw" 238 (.ref 42) :: en P "shuffled" 252 (.ref 49) :: en P "picked" 264 (.ref 56) :: en P "GREATEST_COST" 268 (.int 10000 267) :: en P "GREATEST_WEIGHT" 270 (.int 100 269) :: en P "Job" 305 (.ref 73) :: en P "Player" 356 (.ref 108) :: en P "Session" 514 (.ref 219) :: en P "NOT_IN_RANGE" 519 (.int (-1) 518) :: en P "NOT_THERE" 522 (.int (-2) 521) :: en P "THERE_ALREADY" 525 (.int (-3) 524) :: en P "NOTHING" 528 (.int (-4) 527) :: en P "NO_PLACE" 531 (.int (-5) 530) :: en P "SEEDS" 534 (.ref 224) :: en P "BUDGETS" 537 (.ref 225) :: en P "QUANTUMS" 540 (.ref 226) :: en P "PLAYERS" 543 (.ref 227) :: en P "WEIGHTS" 546 (.ref 228) :: en P "THINGS" 549 (.ref 229) :: en P "COSTS" 552 (.ref 230) :: en P "SIDES" 555 (.ref 231) :: en P "TICKS_AT_ONCE" 558 (.ref 232) :: en P "TICKS" 561 (.ref 233) :: en P "COUNTS" 564 (.ref 234) :: en P "SHUFFLED" 567 (.ref 235) :: en P "ROW_LENGTHS" 570 (.ref 236) :: en P "ROW_WEIGHTS" 573 (.ref 237) :: en P "MOST_PLAYERS" 575 (.int 8 574) :: en P "MOST_JOBS" 577 (.int 64 576) :: en P "LAST_TICK" 579 (.int 1000000000 578) :: en P "HALF_WORD" 581 (.int 4294967296 580) :: en P "all_within" 591 (.ref 244) :: en P "answer_begin" 599 (.ref 251) :: en P "answer_join" 607 (.ref 258) :: en P "answer_leave" 617 (.ref 265) :: en P "answer_job" 627 (.ref 272) :: en P "answer_drop" 635 (.ref 279) :: en P "answer_tick" 644 (.ref 286) :: en P "answer_queue" 655 (.ref 293) :: en P "answer_players" 665 (.ref 300) :: en P "answer_weigh" 674 (.ref 307) :: en P "answer_draw" 682 (.ref 314) :: en P "answer_raw" 691 (.ref 321) :: en P "answer_shuffle" 699 (.ref 328) :: en P "answer_pick" 705 (.ref 333) :: en P "answer_bound" 714 (.ref 340) :: en P "answer_try" 722 (.ref 347) :: en P "answer_state" 732 (.ref 354) :: en P "ANSWERS" 733 (.ref 355) :: en P "answer" 742 (.ref 362) :: en P "LENGTHS" 761 (.ref 363) :: en P "PICK" 763 (.int 12 762) :: en P "end_of_call" 773 (.ref 370) :: en P "answers" 785 (.ref 377) :: []).toArray 69, #[]⟩) ::
  (nat_lit 20, ⟨.type "code", none, .fields #[.str "stirred" 195, .str "stirred" 196, .str "/claim/cut.py" 197, .int 5 0, .int 1 0, .int 0 0, .int 0 0, .int 3 0, .ref 15, .bool true, .int 181 0, .ref 16, .none, .ref 17, .ref 18, .ref 19, .int 201 0, .int 5 0, .str "/claim/cut.py" 202], #[]⟩) ::
  (nat_lit 21, fo "stirred" "stirred" (tp 4) "turnshares.chance" 187 20) ::
  (nat_lit 27, ⟨.type "code", none, .fields #[.str "stirred_in" 204, .str "stirred_in" 205, .str "/claim/cut.py" 206, .int 9 0, .int 2 0, .int 0 0, .int 0 0, .int 3 0, .ref 22, .bool true, .int 181 0, .ref 23, .none, .ref 24, .ref 25, .ref 26, .int 209 0, .int 9 0, .str "/claim/cut.py" 210], #[]⟩) ::
  (nat_lit 28, fo "stirred_in" "stirred_in" (tp 5) "turnshares.chance" 187 27) ::
  (nat_lit 34, ⟨.type "code", none, .fields #[.str "raw_number" 212, .str "raw_number" 213, .str "/claim/cut.py" 214, .int 11 0, .int 5 0, .int 0 0, .int 0 0, .int 3 0, .ref 29, .bool true, .int 181 0, .ref 30, .none, .ref 31, .ref 32, .ref 33, .int 222 0, .int 11 0, .str "/claim/cut.py" 223], #[]⟩) ::
  (nat_lit 35, fo "raw_number" "raw_number" (tp 6) "turnshares.chance" 187 34) ::
  (nat_lit 41, ⟨.type "code", none, .fields #[.str "draw" 225, .str "draw" 226, .str "/claim/cut.py" 227, .int 16 0, .int 5 0, .int 0 0, .int 0 0, .int 3 0, .ref 36, .bool true, .int 181 0, .ref 37, .none, .ref 38, .ref 39, .ref 40, .int 236 0, .int 16 0, .str "/claim/cut.py" 237], #[]⟩) ::
  (nat_lit 42, fo "draw" "draw" (tp 7) "turnshares.chance" 187 41) ::
  (nat_lit 48, ⟨.type "code", none, .fields #[.str "shuffled" 239, .str "shuffled" 240, .str "/claim/cut.py" 241, .int 23 0, .int 4 0, .int 0 0, .int 0 0, .int 3 0, .ref 43, .bool true, .int 181 0, .ref 44, .none, .ref 45, .ref 46, .ref 47, .int 250 0, .int 23 0, .str "/claim/cut.py" 251], #[]⟩) ::
  (nat_lit 49, fo "shuffled" "shuffled" (tp 8) "turnshares.chance" 187 48) ::
  (nat_lit 55, ⟨.type "code", none, .fields #[.str "picked" 253, .str "picked" 254, .str "/claim/cut.py" 255, .int 31 0, .int 4 0, .int 0 0, .int 0 0, .int 3 0, .ref 50, .bool true, .int 181 0, .ref 51, .none, .ref 52, .ref 53, .ref 54, .int 262 0, .int 31 0, .str "/claim/cut.py" 263], #[]⟩) ::
  (nat_lit 56, fo "picked" "picked" (tp 9) "turnshares.chance" 187 55) ::
  (nat_lit 69, ⟨.type "code", none, .fields #[.str "__init__" 283, .str "Job.__init__" 284, .str "/claim/cut.py" 285, .int 43 0, .int 5 0, .int 0 0, .int 0 0, .int 3 0, .ref 64, .bool true, .int 181 0, .ref 65, .none, .ref 66, .ref 67, .ref 68, .int 291 0, .int 43 0, .str "/claim/cut.py" 292], #[]⟩) ::
  (nat_lit 70, fo "__init__" "Job.__init__" (cl 13 0) "turnshares.turns" 265 69) ::
  (nat_lit 72, ⟨.type "dict", none, .dict (en P "__module__" 278 (.str "turnshares.turns" 265) :: en P "__firstlineno__" 282 (.int 41 281) :: en P "__init__" 293 (.ref 70) :: en P "__static_attributes__" 298 (.ref 71) :: en P "__dict__" 300 (.ref 74) :: en P "__weakref__" 302 (.ref 75) :: en P "__doc__" 303 .none :: []).toArray 4, #[]⟩) ::
  (nat_lit 73, ⟨.type "type", none, .cls { name := Str.ofString "Job", bases := [Value.type "object"], mro := [Value.ref 73, Value.type "object"], ns := 72, qualname := Str.ofString "Job" }, #[none, none, some (.str "Job" 271), some (.str "Job" 279), some (.builtin "object.__new__"), some (.bool true)]⟩) ::
  (nat_lit 90, ⟨.type "code", none, .fields #[.str "__init__" 318, .str "Player.__init__" 319, .str "/claim/cut.py" 320, .int 50 0, .int 3 0, .int 0 0, .int 0 0, .int 3 0, .ref 85, .bool true, .int 181 0, .ref 86, .none, .ref 87, .ref 88, .ref 89, .int 324 0, .int 50 0, .str "/claim/cut.py" 325], #[]⟩) ::
  (nat_lit 91, fo "__init__" "Player.__init__" (cl 14 0) "turnshares.turns" 265 90) ::
  (nat_lit 97, ⟨.type "code", none, .fields #[.str "take_job" 327, .str "Player.take_job" 328, .str "/claim/cut.py" 329, .int 57 0, .int 2 0, .int 0 0, .int 0 0, .int 3 0, .ref 92, .bool true, .int 181 0, .ref 93, .none, .ref 94, .ref 95, .ref 96, .int 333 0, .int 57 0, .str "/claim/cut.py" 334], #[]⟩) ::
  (nat_lit 98, fo "take_job" "Player.take_job" (cl 14 1) "turnshares.turns" 265 97) ::
  (nat_lit 104, ⟨.type "code", none, .fields #[.str "copied" 336, .str "Player.copied" 337, .str "/claim/cut.py" 338, .int 63 0, .int 1 0, .int 0 0, .int 0 0, .int 3 0, .ref 99, .bool true, .int 181 0, .ref 100, .none, .ref 101, .ref 102, .ref 103, .int 341 0, .int 63 0, .str "/claim/cut.py" 342], #[]⟩) ::
  (nat_lit 105, fo "copied" "Player.copied" (cl 14 2) "turnshares.turns" 265 104) ::
  (nat_lit 107, ⟨.type "dict", none, .dict (en P "__module__" 313 (.str "turnshares.turns" 265) :: en P "__firstlineno__" 317 (.int 48 316) :: en P "__init__" 326 (.ref 91) :: en P "take_job" 335 (.ref 98) :: en P "copied" 343 (.ref 105) :: en P "__static_attributes__" 349 (.ref 106) :: en P "__dict__" 351 (.ref 109) :: en P "__weakref__" 353 (.ref 110) :: en P "__doc__" 354 .none :: []).toArray 4, #[]⟩) ::
  (nat_lit 108, ⟨.type "type", none, .cls { name := Str.ofString "Player", bases := [Value.type "object"], mro := [Value.ref 108, Value.type "object"], ns := 107, qualname := Str.ofString "Player" }, #[none, none, some (.str "Player" 306), some (.str "Player" 314), some (.builtin "object.__new__"), some (.bool true)]⟩) ::
  (nat_lit 125, ⟨.type "code", none, .fields #[.str "__init__" 369, .str "Session.__init__" 370, .str "/claim/cut.py" 371, .int 71 0, .int 1 0, .int 0 0, .int 0 0, .int 3 0, .ref 120, .bool true, .int 181 0, .ref 121, .none, .ref 122, .ref 123, .ref 124, .int 373 0, .int 71 0, .str "/claim/cut.py" 374], #[]⟩) ::
  (nat_lit 126, fo "__init__" "Session.__init__" (cl 15 0) "turnshares.turns" 265 125) ::
  (nat_lit 132, ⟨.type "code", none, .fields #[.str "begin" 376, .str "Session.begin" 377, .str "/claim/cut.py" 378, .int 74 0, .int 4 0, .int 0 0, .int 0 0, .int 3 0, .ref 127, .bool true, .int 181 0, .ref 128, .none, .ref 129, .ref 130, .ref 131, .int 383 0, .int 74 0, .str "/claim/cut.py" 384], #[]⟩) ::
  (nat_lit 133, fo "begin" "Session.begin" (cl 15 1) "turnshares.turns" 265 132) ::
  (nat_lit 137, ⟨.type "code", none, .fields #[.str "copied" 386, .str "Session.copied" 387, .str "/claim/cut.py" 388, .int 85 0, .int 1 0, .int 0 0, .int 0 0, .int 3 0, .ref 134, .bool true, .int 181 0, .ref 135, .none, .none, .none, .ref 136, .int 389 0, .int 85 0, .str "/claim/cut.py" 390], #[]⟩) ::
  (nat_lit 138, fo "copied" "Session.copied" (cl 15 2) "turnshares.turns" 265 137) ::
  (nat_lit 144, ⟨.type "code", none, .fields #[.str "place_of" 392, .str "Session.place_of" 393, .str "/claim/cut.py" 394, .int 96 0, .int 2 0, .int 0 0, .int 0 0, .int 3 0, .ref 139, .bool true, .int 181 0, .ref 140, .none, .ref 141, .ref 142, .ref 143, .int 399 0, .int 96 0, .str "/claim/cut.py" 400], #[]⟩) ::
  (nat_lit 145, fo "place_of" "Session.place_of" (cl 15 3) "turnshares.turns" 265 144) ::
  (nat_lit 151, ⟨.type "code", none, .fields #[.str "find_player" 402, .str "Session.find_player" 403, .str "/claim/cut.py" 404, .int 102 0, .int 2 0, .int 0 0, .int 0 0, .int 3 0, .ref 146, .bool true, .int 181 0, .ref 147, .none, .ref 148, .ref 149, .ref 150, .int 408 0, .int 102 0, .str "/claim/cut.py" 409], #[]⟩) ::
  (nat_lit 152, fo "find_player" "Session.find_player" (cl 15 4) "turnshares.turns" 265 151) ::
  (nat_lit 156, ⟨.type "code", none, .fields #[.str "count_jobs" 411, .str "Session.count_jobs" 412, .str "/claim/cut.py" 413, .int 106 0, .int 1 0, .int 0 0, .int 0 0, .int 3 0, .ref 153, .bool true, .int 181 0, .ref 154, .none, .none, .none, .ref 155, .int 414 0, .int 106 0, .str "/claim/cut.py" 415], #[]⟩) ::
  (nat_lit 157, fo "count_jobs" "Session.count_jobs" (cl 15 5) "turnshares.turns" 265 156) ::
  (nat_lit 163, ⟨.type "code", none, .fields #[.str "add_job" 417, .str "Session.add_job" 418, .str "/claim/cut.py" 419, .int 109 0, .int 5 0, .int 0 0, .int 0 0, .int 3 0, .ref 158, .bool true, .int 181 0, .ref 159, .none, .ref 160, .ref 161, .ref 162, .int 426 0, .int 109 0, .str "/claim/cut.py" 427], #[]⟩) ::
  (nat_lit 164, fo "add_job" "Session.add_job" (cl 15 6) "turnshares.turns" 265 163) ::
  (nat_lit 168, ⟨.type "code", none, .fields #[.str "drop_job" 429, .str "Session.drop_job" 430, .str "/claim/cut.py" 431, .int 115 0, .int 2 0, .int 0 0, .int 0 0, .int 3 0, .ref 165, .bool true, .int 181 0, .ref 166, .none, .none, .none, .ref 167, .int 432 0, .int 115 0, .str "/claim/cut.py" 433], #[]⟩) ::
  (nat_lit 169, fo "drop_job" "Session.drop_job" (cl 15 7) "turnshares.turns" 265 168) ::
  (nat_lit 175, ⟨.type "code", none, .fields #[.str "remove_player" 435, .str "Session.remove_player" 436, .str "/claim/cut.py" 437, .int 123 0, .int 2 0, .int 0 0, .int 0 0, .int 3 0, .ref 170, .bool true, .int 181 0, .ref 171, .none, .ref 172, .ref 173, .ref 174, .int 440 0, .int 123 0, .str "/claim/cut.py" 441], #[]⟩) ::
  (nat_lit 176, fo "remove_player" "Session.remove_player" (cl 15 8) "turnshares.turns" 265 175) ::
  (nat_lit 182, ⟨.type "code", none, .fields #[.str "give_turn" 443, .str "Session.give_turn" 444, .str "/claim/cut.py" 445, .int 130 0, .int 2 0, .int 0 0, .int 0 0, .int 3 0, .ref 177, .bool true, .int 181 0, .ref 178, .none, .ref 179, .ref 180, .ref 181, .int 448 0, .int 130 0, .str "/claim/cut.py" 449], #[]⟩) ::
  (nat_lit 183, fo "give_turn" "Session.give_turn" (cl 15 9) "turnshares.turns" 265 182) ::
  (nat_lit 189, ⟨.type "code", none, .fields #[.str "pass_turn" 451, .str "Session.pass_turn" 452, .str "/claim/cut.py" 453, .int 134 0, .int 1 0, .int 0 0, .int 0 0, .int 3 0, .ref 184, .bool true, .int 181 0, .ref 185, .none, .ref 186, .ref 187, .ref 188, .int 455 0, .int 134 0, .str "/claim/cut.py" 456], #[]⟩) ::
  (nat_lit 190, fo "pass_turn" "Session.pass_turn" (cl 15 10) "turnshares.turns" 265 189) ::
  (nat_lit 196, ⟨.type "code", none, .fields #[.str "run_ticks" 458, .str "Session.run_ticks" 459, .str "/claim/cut.py" 460, .int 137 0, .int 2 0, .int 0 0, .int 0 0, .int 3 0, .ref 191, .bool true, .int 181 0, .ref 192, .none, .ref 193, .ref 194, .ref 195, .int 465 0, .int 137 0, .str "/claim/cut.py" 466], #[]⟩) ::
  (nat_lit 197, fo "run_ticks" "Session.run_ticks" (cl 15 11) "turnshares.turns" 265 196) ::
  (nat_lit 203, ⟨.type "code", none, .fields #[.str "run_tick" 468, .str "Session.run_tick" 469, .str "/claim/cut.py" 470, .int 143 0, .int 1 0, .int 0 0, .int 0 0, .int 3 0, .ref 198, .bool true, .int 181 0, .ref 199, .none, .ref 200, .ref 201, .ref 202, .int 476 0, .int 143 0, .str "/claim/cut.py" 477], #[]⟩) ::
  (nat_lit 204, fo "run_tick" "Session.run_tick" (cl 15 12) "turnshares.turns" 265 203) ::
  (nat_lit 210, ⟨.type "code", none, .fields #[.str "do_job" 479, .str "Session.do_job" 480, .str "/claim/cut.py" 481, .int 166 0, .int 3 0, .int 0 0, .int 0 0, .int 3 0, .ref 205, .bool true, .int 181 0, .ref 206, .none, .ref 207, .ref 208, .ref 209, .int 489 0, .int 166 0, .str "/claim/cut.py" 490], #[]⟩) ::
  (nat_lit 211, fo "do_job" "Session.do_job" (cl 15 13) "turnshares.turns" 265 210) ::
  (nat_lit 215, ⟨.type "code", none, .fields #[.str "bound_of" 492, .str "Session.bound_of" 493, .str "/claim/cut.py" 494, .int 177 0, .int 2 0, .int 0 0, .int 0 0, .int 3 0, .ref 212, .bool true, .int 181 0, .ref 213, .none, .none, .none, .ref 214, .int 495 0, .int 177 0, .str "/claim/cut.py" 496], #[]⟩) ::
  (nat_lit 216, fo "bound_of" "Session.bound_of" (cl 15 14) "turnshares.turns" 265 215) ::
  (nat_lit 218, ⟨.type "dict", none, .dict (en P "__module__" 364 (.str "turnshares.turns" 265) :: en P "__firstlineno__" 368 (.int 69 367) :: en P "__init__" 375 (.ref 126) :: en P "begin" 385 (.ref 133) :: en P "copied" 391 (.ref 138) :: en P "place_of" 401 (.ref 145) :: en P "find_player" 410 (.ref 152) :: en P "count_jobs" 416 (.ref 157) :: en P "add_job" 428 (.ref 164) :: en P "drop_job" 434 (.ref 169) :: en P "remove_player" 442 (.ref 176) :: en P "give_turn" 450 (.ref 183) :: en P "pass_turn" 457 (.ref 190) :: en P "run_ticks" 467 (.ref 197) :: en P "run_tick" 478 (.ref 204) :: en P "do_job" 491 (.ref 211) :: en P "bound_of" 497 (.ref 216) :: en P "__static_attributes__" 507 (.ref 217) :: en P "__dict__" 509 (.ref 220) :: en P "__weakref__" 511 (.ref 221) :: en P "__doc__" 512 .none :: []).toArray 4, #[]⟩) ::
  (nat_lit 219, ⟨.type "type", none, .cls { name := Str.ofString "Session", bases := [Value.type "object"], mro := [Value.ref 219, Value.type "object"], ns := 218, qualname := Str.ofString "Session" }, #[none, none, some (.str "Session" 357), some (.str "Session" 365), some (.builtin "object.__new__"), some (.bool true)]⟩) ::
  (nat_lit 224, ⟨.type "tuple", none, .seq #[.int 0 532, .int 1000000000000000000 533] 0, #[]⟩) ::
  (nat_lit 225, ⟨.type "tuple", none, .seq #[.int 20000 535, .int 1000000 536] 0, #[]⟩) ::
  (nat_lit 226, ⟨.type "tuple", none, .seq #[.int 100 538, .int 10000 539] 0, #[]⟩) ::
  (nat_lit 227, ⟨.type "tuple", none, .seq #[.int 1 541, .int 999 542] 0, #[]⟩) ::
  (nat_lit 228, ⟨.type "tuple", none, .seq #[.int 1 544, .int 100 545] 0, #[]⟩) ::
  (nat_lit 229, ⟨.type "tuple", none, .seq #[.int 0 547, .int 1000000 548] 0, #[]⟩) ::
  (nat_lit 230, ⟨.type "tuple", none, .seq #[.int 1 550, .int 10000 551] 0, #[]⟩) ::
  (nat_lit 231, ⟨.type "tuple", none, .seq #[.int 1 553, .int 1000000000 554] 0, #[]⟩) ::
  (nat_lit 232, ⟨.type "tuple", none, .seq #[.int 1 556, .int 20 557] 0, #[]⟩) ::
  (nat_lit 233, ⟨.type "tuple", none, .seq #[.int 0 559, .int 1000000000 560] 0, #[]⟩) ::
  (nat_lit 234, ⟨.type "tuple", none, .seq #[.int 0 562, .int 1000000 563] 0, #[]⟩) ::
  (nat_lit 235, ⟨.type "tuple", none, .seq #[.int 0 565, .int 64 566] 0, #[]⟩) ::
  (nat_lit 236, ⟨.type "tuple", none, .seq #[.int 1 568, .int 32 569] 0, #[]⟩) ::
  (nat_lit 237, ⟨.type "tuple", none, .seq #[.int 0 571, .int 1000000 572] 0, #[]⟩) ::
  (nat_lit 243, ⟨.type "code", none, .fields #[.str "all_within" 582, .str "all_within" 583, .str "/claim/cut.py" 584, .int 208 0, .int 2 0, .int 0 0, .int 0 0, .int 3 0, .ref 238, .bool true, .int 181 0, .ref 239, .none, .ref 240, .ref 241, .ref 242, .int 589 0, .int 208 0, .str "/claim/cut.py" 590], #[]⟩) ::
  (nat_lit 244, fo "all_within" "all_within" (tp 40) "turnshares.calls" 515 243) ::
  (nat_lit 250, ⟨.type "code", none, .fields #[.str "answer_begin" 592, .str "answer_begin" 593, .str "/claim/cut.py" 594, .int 213 0, .int 2 0, .int 0 0, .int 0 0, .int 3 0, .ref 245, .bool true, .int 181 0, .ref 246, .none, .ref 247, .ref 248, .ref 249, .int 597 0, .int 213 0, .str "/claim/cut.py" 598], #[]⟩) ::
  (nat_lit 251, fo "answer_begin" "answer_begin" (tp 41) "turnshares.calls" 515 250) ::
  (nat_lit 257, ⟨.type "code", none, .fields #[.str "answer_join" 600, .str "answer_join" 601, .str "/claim/cut.py" 602, .int 218 0, .int 2 0, .int 0 0, .int 0 0, .int 3 0, .ref 252, .bool true, .int 181 0, .ref 253, .none, .ref 254, .ref 255, .ref 256, .int 605 0, .int 218 0, .str "/claim/cut.py" 606], #[]⟩) ::
  (nat_lit 258, fo "answer_join" "answer_join" (tp 42) "turnshares.calls" 515 257) ::
  (nat_lit 264, ⟨.type "code", none, .fields #[.str "answer_leave" 608, .str "answer_leave" 609, .str "/claim/cut.py" 610, .int 227 0, .int 2 0, .int 0 0, .int 0 0, .int 3 0, .ref 259, .bool true, .int 181 0, .ref 260, .none, .ref 261, .ref 262, .ref 263, .int 615 0, .int 227 0, .str "/claim/cut.py" 616], #[]⟩) ::
  (nat_lit 265, fo "answer_leave" "answer_leave" (tp 43) "turnshares.calls" 515 264) ::
  (nat_lit 271, ⟨.type "code", none, .fields #[.str "answer_job" 618, .str "answer_job" 619, .str "/claim/cut.py" 620, .int 234 0, .int 2 0, .int 0 0, .int 0 0, .int 3 0, .ref 266, .bool true, .int 181 0, .ref 267, .none, .ref 268, .ref 269, .ref 270, .int 625 0, .int 234 0, .str "/claim/cut.py" 626], #[]⟩) ::
  (nat_lit 272, fo "answer_job" "answer_job" (tp 44) "turnshares.calls" 515 271) ::
  (nat_lit 278, ⟨.type "code", none, .fields #[.str "answer_drop" 628, .str "answer_drop" 629, .str "/claim/cut.py" 630, .int 244 0, .int 2 0, .int 0 0, .int 0 0, .int 3 0, .ref 273, .bool true, .int 181 0, .ref 274, .none, .ref 275, .ref 276, .ref 277, .int 633 0, .int 244 0, .str "/claim/cut.py" 634], #[]⟩) ::
  (nat_lit 279, fo "answer_drop" "answer_drop" (tp 45) "turnshares.calls" 515 278) ::
  (nat_lit 285, ⟨.type "code", none, .fields #[.str "answer_tick" 636, .str "answer_tick" 637, .str "/claim/cut.py" 638, .int 248 0, .int 2 0, .int 0 0, .int 0 0, .int 3 0, .ref 280, .bool true, .int 181 0, .ref 281, .none, .ref 282, .ref 283, .ref 284, .int 642 0, .int 248 0, .str "/claim/cut.py" 643], #[]⟩) ::
  (nat_lit 286, fo "answer_tick" "answer_tick" (tp 46) "turnshares.calls" 515 285) ::
  (nat_lit 292, ⟨.type "code", none, .fields #[.str "answer_queue" 645, .str "answer_queue" 646, .str "/claim/cut.py" 647, .int 255 0, .int 2 0, .int 0 0, .int 0 0, .int 3 0, .ref 287, .bool true, .int 181 0, .ref 288, .none, .ref 289, .ref 290, .ref 291, .int 653 0, .int 255 0, .str "/claim/cut.py" 654], #[]⟩) ::
  (nat_lit 293, fo "answer_queue" "answer_queue" (tp 47) "turnshares.calls" 515 292) ::
  (nat_lit 299, ⟨.type "code", none, .fields #[.str "answer_players" 656, .str "answer_players" 657, .str "/claim/cut.py" 658, .int 263 0, .int 2 0, .int 0 0, .int 0 0, .int 3 0, .ref 294, .bool true, .int 181 0, .ref 295, .none, .ref 296, .ref 297, .ref 298, .int 663 0, .int 263 0, .str "/claim/cut.py" 664], #[]⟩) ::
  (nat_lit 300, fo "answer_players" "answer_players" (tp 48) "turnshares.calls" 515 299) ::
  (nat_lit 306, ⟨.type "code", none, .fields #[.str "answer_weigh" 666, .str "answer_weigh" 667, .str "/claim/cut.py" 668, .int 268 0, .int 2 0, .int 0 0, .int 0 0, .int 3 0, .ref 301, .bool true, .int 181 0, .ref 302, .none, .ref 303, .ref 304, .ref 305, .int 672 0, .int 268 0, .str "/claim/cut.py" 673], #[]⟩) ::
  (nat_lit 307, fo "answer_weigh" "answer_weigh" (tp 49) "turnshares.calls" 515 306) ::
  (nat_lit 313, ⟨.type "code", none, .fields #[.str "answer_draw" 675, .str "answer_draw" 676, .str "/claim/cut.py" 677, .int 276 0, .int 2 0, .int 0 0, .int 0 0, .int 3 0, .ref 308, .bool true, .int 181 0, .ref 309, .none, .ref 310, .ref 311, .ref 312, .int 680 0, .int 276 0, .str "/claim/cut.py" 681], #[]⟩) ::
  (nat_lit 314, fo "answer_draw" "answer_draw" (tp 50) "turnshares.calls" 515 313) ::
  (nat_lit 320, ⟨.type "code", none, .fields #[.str "answer_raw" 683, .str "answer_raw" 684, .str "/claim/cut.py" 685, .int 280 0, .int 2 0, .int 0 0, .int 0 0, .int 3 0, .ref 315, .bool true, .int 181 0, .ref 316, .none, .ref 317, .ref 318, .ref 319, .int 689 0, .int 280 0, .str "/claim/cut.py" 690], #[]⟩) ::
  (nat_lit 321, fo "answer_raw" "answer_raw" (tp 51) "turnshares.calls" 515 320) ::
  (nat_lit 327, ⟨.type "code", none, .fields #[.str "answer_shuffle" 692, .str "answer_shuffle" 693, .str "/claim/cut.py" 694, .int 285 0, .int 2 0, .int 0 0, .int 0 0, .int 3 0, .ref 322, .bool true, .int 181 0, .ref 323, .none, .ref 324, .ref 325, .ref 326, .int 697 0, .int 285 0, .str "/claim/cut.py" 698], #[]⟩) ::
  (nat_lit 328, fo "answer_shuffle" "answer_shuffle" (tp 52) "turnshares.calls" 515 327) ::
  (nat_lit 332, ⟨.type "code", none, .fields #[.str "answer_pick" 700, .str "answer_pick" 701, .str "/claim/cut.py" 702, .int 289 0, .int 2 0, .int 0 0, .int 0 0, .int 3 0, .ref 329, .bool true, .int 181 0, .ref 330, .none, .none, .none, .ref 331, .int 703 0, .int 289 0, .str "/claim/cut.py" 704], #[]⟩) ::
  (nat_lit 333, fo "answer_pick" "answer_pick" (tp 53) "turnshares.calls" 515 332) ::
  (nat_lit 339, ⟨.type "code", none, .fields #[.str "answer_bound" 706, .str "answer_bound" 707, .str "/claim/cut.py" 708, .int 298 0, .int 2 0, .int 0 0, .int 0 0, .int 3 0, .ref 334, .bool true, .int 181 0, .ref 335, .none, .ref 336, .ref 337, .ref 338, .int 712 0, .int 298 0, .str "/claim/cut.py" 713], #[]⟩) ::
  (nat_lit 340, fo "answer_bound" "answer_bound" (tp 54) "turnshares.calls" 515 339) ::
  (nat_lit 346, ⟨.type "code", none, .fields #[.str "answer_try" 715, .str "answer_try" 716, .str "/claim/cut.py" 717, .int 305 0, .int 2 0, .int 0 0, .int 0 0, .int 3 0, .ref 341, .bool true, .int 181 0, .ref 342, .none, .ref 343, .ref 344, .ref 345, .int 720 0, .int 305 0, .str "/claim/cut.py" 721], #[]⟩) ::
  (nat_lit 347, fo "answer_try" "answer_try" (tp 55) "turnshares.calls" 515 346) ::
  (nat_lit 353, ⟨.type "code", none, .fields #[.str "answer_state" 723, .str "answer_state" 724, .str "/claim/cut.py" 725, .int 309 0, .int 2 0, .int 0 0, .int 0 0, .int 3 0, .ref 348, .bool true, .int 181 0, .ref 349, .none, .ref 350, .ref 351, .ref 352, .int 730 0, .int 309 0, .str "/claim/cut.py" 731], #[]⟩) ::
  (nat_lit 354, fo "answer_state" "answer_state" (tp 56) "turnshares.calls" 515 353) ::
  (nat_lit 355, ⟨.type "tuple", none, .seq #[.ref 251, .ref 258, .ref 265, .ref 272, .ref 279, .ref 286, .ref 293, .ref 300, .ref 307, .ref 314, .ref 321, .ref 328, .ref 333, .ref 340, .ref 347, .ref 354] 0, #[]⟩) ::
  (nat_lit 361, ⟨.type "code", none, .fields #[.str "answer" 734, .str "answer" 735, .str "/claim/cut.py" 736, .int 314 0, .int 3 0, .int 0 0, .int 0 0, .int 3 0, .ref 356, .bool true, .int 181 0, .ref 357, .none, .ref 358, .ref 359, .ref 360, .int 740 0, .int 314 0, .str "/claim/cut.py" 741], #[]⟩) ::
  (nat_lit 362, fo "answer" "answer" (tp 58) "turnshares.calls" 515 361) ::
  (nat_lit 363, ⟨.type "tuple", none, .seq #[.int 3 745, .int 2 746, .int 1 747, .int 4 748, .int 1 749, .int 1 750, .int 1 751, .int 0 752, .int 2 753, .int 4 754, .int 3 755, .int 3 756, .int 3 757, .int 1 758, .int 1 759, .int 0 760] 0, #[]⟩) ::
  (nat_lit 369, ⟨.type "code", none, .fields #[.str "end_of_call" 764, .str "end_of_call" 765, .str "/claim/cut.py" 766, .int 319 0, .int 2 0, .int 0 0, .int 0 0, .int 3 0, .ref 364, .bool true, .int 181 0, .ref 365, .none, .ref 366, .ref 367, .ref 368, .int 771 0, .int 319 0, .str "/claim/cut.py" 772], #[]⟩) ::
  (nat_lit 370, fo "end_of_call" "end_of_call" (tp 62) "turnshares.world" 743 369) ::
  (nat_lit 376, ⟨.type "code", none, .fields #[.str "answers" 774, .str "answers" 775, .str "/claim/cut.py" 776, .int 323 0, .int 1 0, .int 0 0, .int 0 0, .int 3 0, .ref 371, .bool true, .int 181 0, .ref 372, .none, .ref 373, .ref 374, .ref 375, .int 783 0, .int 323 0, .str "/claim/cut.py" 784], #[]⟩) ::
  (nat_lit 377, fo "answers" "answers" (tp 63) "turnshares.world" 743 376) :: []
def KA : List Addr := 3 :: 20 :: 21 :: 27 :: 28 :: 34 :: 35 :: 41 :: 42 :: 48 :: 49 :: 55 :: 56 :: 69 :: 70 :: 72 :: 73 :: 90 :: 91 :: 97 :: 98 :: 104 :: 105 :: 107 :: 108 :: 125 :: 126 :: 132 :: 133 :: 137 :: 138 :: 144 :: 145 :: 151 :: 152 :: 156 :: 157 :: 163 :: 164 :: 168 :: 169 :: 175 :: 176 :: 182 :: 183 :: 189 :: 190 :: 196 :: 197 :: 203 :: 204 :: 210 :: 211 :: 215 :: 216 :: 218 :: 219 :: 224 :: 225 :: 226 :: 227 :: 228 :: 229 :: 230 :: 231 :: 232 :: 233 :: 234 :: 235 :: 236 :: 237 :: 243 :: 244 :: 250 :: 251 :: 257 :: 258 :: 264 :: 265 :: 271 :: 272 :: 278 :: 279 :: 285 :: 286 :: 292 :: 293 :: 299 :: 300 :: 306 :: 307 :: 313 :: 314 :: 320 :: 321 :: 327 :: 328 :: 332 :: 333 :: 339 :: 340 :: 346 :: 347 :: 353 :: 354 :: 355 :: 361 :: 362 :: 363 :: 369 :: 370 :: 376 :: 377 :: []
theorem ka : ∀ P, KA = (KK P).map (·.1) := fun _ => by kernel_rfl
theorem glue {α β : Type} {o : Option Shared} {f : Shared → α} {g : Shared → β} {a : α} {b : β} (h1 : o.map f = some a) (h2 : o.map g = some b) : o.map (fun s => (f s, g s)) = some (a, b) := by
  cases o with
  | none => cases h1
  | some s =>
    have e1 : f s = a := Option.some.inj h1
    have e2 : g s = b := Option.some.inj h2
    show some (f s, g s) = _
    rw [e1, e2]
set_option maxHeartbeats 0 in
theorem left1 : ∀ w : World, (openEnds treeTable PySem.Challenge.pw_turnshares_s01_answers w 5032).map (fun s => openSeen qv lo (importedModules PySem.Challenge.pw_turnshares_s01_answers.main.body) xt true s) = some (openGood qv lo) := fun w => by kernel_rfl
set_option maxHeartbeats 0 in
theorem left2 : ∀ w : World, (openEnds treeTable PySem.Challenge.pw_turnshares_s01_answers w 5032).map (fun s => KA.map s.heap.get?) = some ((KK w.params).map fun p => some p.2) := fun w => by kernel_rfl
theorem left : LeftO PySem.Challenge.pw_turnshares_s01_answers qv lo xt (Hook.obs (kHook KK KA ka)) (Hook.val (kHook KK KA ka)) 5032 := fun w => glue (left1 w) (left2 w)
end TH
section
set_option Elab.async false
set_option linter.all false
set_option maxRecDepth 100000
/-! THE HAND LAYER, for ints, bools, texts, own classes, lists, tuples, dicts, comprehensions, walks over dicts, enumerate, zip, reversed, texts, calls, loops. Paste it whole ahead of your own text; what your proof does not reach may be deleted. -/
namespace L2
open PySem PySem.Spec PyProof.Rows

/-- a key: an int or a str -/
abbrev Key := Sum Int Str
def keyIs : Key → Value → Bool
  | .inl k, v => Value.isInt k v
  | .inr x, v => Value.isStrOf x v
def keyH (w : World) : Key → Int
  | .inl k => hashInt k
  | .inr x => hashStr w x
theorem keyIs_shape : ∀ {k : Key} {v : Value}, keyIs k v = true → (∃ i t, k = Sum.inl i ∧ v = Value.int i t) ∨ (∃ x t, k = Sum.inr x ∧ v = Value.str x t)
  | .inl i, v, h => by
    obtain ⟨t, e⟩ := Value.isInt_shape (k := i) (v := v) h
    exact .inl ⟨i, t, rfl, e⟩
  | .inr x, v, h => by
    obtain ⟨t, e⟩ := Value.isStrOf_shape (x := x) (v := v) h
    exact .inr ⟨x, t, rfl, e⟩
theorem keyIs_int (i : Int) (t : Tok) : keyIs (.inl i) (.int i t) = true := by simp [keyIs, Value.isInt]
theorem keyIs_str (x : Str) (t : Tok) : keyIs (.inr x) (.str x t) = true := by simp [keyIs, Value.isStrOf]
theorem key_ll (a b : Int) : decide ((Sum.inl a : Key) = Sum.inl b) = (a == b) := by
  by_cases e : a = b
  · subst e; simp
  · have h : ¬ (Sum.inl a : Key) = Sum.inl b := fun q => e (Sum.inl.inj q)
    rw [decide_eq_false h]
    exact (beq_eq_false_iff_ne.mpr e).symm
theorem key_rr (a b : Str) : decide ((Sum.inr a : Key) = Sum.inr b) = decide (a = b) := by
  by_cases e : a = b
  · subst e; simp
  · have h : ¬ (Sum.inr a : Key) = Sum.inr b := fun q => e (Sum.inr.inj q)
    rw [decide_eq_false h, decide_eq_false e]
theorem key_lr (a : Int) (b : Str) : decide ((Sum.inl a : Key) = Sum.inr b) = false := decide_eq_false (fun q => nomatch q)
theorem key_rl (a : Str) (b : Int) : decide ((Sum.inr a : Key) = Sum.inl b) = false := decide_eq_false (fun q => nomatch q)

def mixKind (prog : Program) (w : World) : PySem.KeyKind prog w Key where
  is := keyIs
  hash := keyH w
  inj := fun v a b ha hb => by
    rcases keyIs_shape ha with ⟨i, t, rfl, rfl⟩ | ⟨x, t, rfl, rfl⟩
    · rcases keyIs_shape hb with ⟨j, u, rfl, e⟩ | ⟨y, u, rfl, e⟩
      · injection e with e1 _; rw [e1]
      · exact nomatch e
    · rcases keyIs_shape hb with ⟨j, u, rfl, e⟩ | ⟨y, u, rfl, e⟩
      · exact nomatch e
      · injection e with e1 _; rw [e1]
  byValue := fun k v h => by
    rcases keyIs_shape h with ⟨i, t, rfl, rfl⟩ | ⟨x, t, rfl, rfl⟩ <;> rfl
  pyHash := fun hv h => by
    rcases keyIs_shape hv with ⟨i, t, rfl, rfl⟩ | ⟨x, t, rfl, rfl⟩
    · exact wpAny_pyHash_int h
    · exact wpAny_pyHash_str h
  eqBool := fun hu hv h => by
    rcases keyIs_shape hu with ⟨i, t, rfl, rfl⟩ | ⟨x, t, rfl, rfl⟩
    · rcases keyIs_shape hv with ⟨j, u, rfl, rfl⟩ | ⟨y, u, rfl, rfl⟩
      · rw [key_ll] at h; exact wpAny_eqBool_int h
      · rw [key_lr] at h; exact SeqAt.EqAt.int_str i t y u _ _ _ _ h
    · rcases keyIs_shape hv with ⟨j, u, rfl, rfl⟩ | ⟨y, u, rfl, rfl⟩
      · rw [key_rl] at h; exact SeqAt.EqAt.str_int x t j u _ _ _ _ h
      · rw [key_rr] at h; exact wpAny_eqBool_str h
  «strs» := fun k x t v h => by
    rcases keyIs_shape h with ⟨i, u, rfl, e⟩ | ⟨y, u, rfl, e⟩
    · exact nomatch e
    · injection e with e1 _
      subst e1
      cases v <;> rfl

theorem mixKind_int (prog : Program) (w : World) (i : Int) (t : Tok) : (mixKind prog w).is (.inl i) (.int i t) = true := keyIs_int i t
theorem mixKind_str (prog : Program) (w : World) (x : Str) (t : Tok) : (mixKind prog w).is (.inr x) (.str x t) = true := keyIs_str x t
end L2

namespace L2
open PySem PySem.Spec PyProof.Rows

/-- a value, without the heap -/
inductive V where
  | non | bl (b : Bool) | int (i : Int) | str (x : Str) | byt (b : Array UInt8) | flt (b : UInt64) | ref (a : Addr) | ty (n : String)
  deriving DecidableEq

def RelV : V → Value → Prop
  | .non, u => u = Value.none
  | .bl b, u => u = Value.bool b
  | .int i, u => ∃ t, u = Value.int i t
  | .str x, u => ∃ t, u = Value.str x t
  | .byt b, u => ∃ t, u = Value.bytes b t
  | .flt b, u => ∃ t, u = Value.float b t
  | .ref a, u => u = Value.ref a
  | .ty n, u => u = Value.type n

abbrev Vals : List V → List Value → Prop := Paired RelV
theorem Vals.length {xs : List V} {us : List Value} (r : Vals xs us) : xs.length = us.length := Paired.length r
theorem Vals.get : ∀ {xs : List V} {us : List Value} {i : Nat} {x : V}, Vals xs us → xs[i]? = some x → ∃ u, us[i]? = some u ∧ RelV x u
  | _, _, _, _, .nil, e => by simp at e
  | _, _, 0, _, .cons r _, e => by simp at e; subst e; exact ⟨_, rfl, r⟩
  | _, _, i + 1, x, .cons _ t, e => by
    obtain ⟨u, h1, h2⟩ := Vals.get (i := i) (x := x) t (by simpa using e)
    exact ⟨u, by simpa using h1, h2⟩
theorem Vals.set {x : V} {u : Value} (r : RelV x u) : ∀ {xs : List V} {us : List Value} (i : Nat), Vals xs us → Vals (xs.set i x) (us.set i u)
  | _, _, _, .nil => .nil
  | _, _, 0, .cons _ t => .cons r t
  | _, _, i + 1, .cons q t => .cons q (Vals.set r i t)
theorem Vals.append : ∀ {xs ys : List V} {us ws : List Value}, Vals xs us → Vals ys ws → Vals (xs ++ ys) (us ++ ws)
  | _, _, _, _, .nil, s => s
  | _, _, _, _, .cons r t, s => .cons r (Vals.append t s)
theorem Vals.take : ∀ {xs : List V} {us : List Value} (n : Nat), Vals xs us → Vals (xs.take n) (us.take n)
  | _, _, 0, _ => .nil
  | _, _, _ + 1, .nil => .nil
  | _, _, n + 1, .cons r t => .cons r (Vals.take n t)
theorem Vals.drop : ∀ {xs : List V} {us : List Value} (n : Nat), Vals xs us → Vals (xs.drop n) (us.drop n)
  | _, _, 0, r => r
  | _, _, _ + 1, .nil => .nil
  | _, _, n + 1, .cons _ t => Vals.drop n t
theorem Vals.none_of : ∀ {xs : List V} {us : List Value} {i : Nat}, Vals xs us → xs[i]? = none → us[i]? = none := fun {xs us i} r e => by
  have h1 := r.length
  have h2 : xs.length ≤ i := List.getElem?_eq_none_iff.mp e
  exact List.getElem?_eq_none_iff.mpr (by omega)

def RelO : Option V → Option Value → Prop
  | some v, some u => RelV v u
  | none, none => True
  | _, _ => False
def KV {κ : Type} : List (κ × V) → List (κ × Value) → Prop := Paired fun (p : κ × V) (q : κ × Value) => p.1 = q.1 ∧ RelV p.2 q.2

/-- a key of a dict (00_mix): an int or a text -/
def kV : Key → V
  | .inl i => .int i
  | .inr x => .str x

/-- what stands at a tracked address -/
inductive HO where
  /-- a list -/
  | lst (xs : List V)
  /-- a tuple (never changes) -/
  | tup (xs : List V)
  /-- a dict whose keys are ints and texts; one whose keys are tuples of ints and texts (the empty one is both) -/
  | dK (kvs : List (Key × V)) | dT (kvs : List (List Key × V))
  /-- a set of ints: its members, its size -/
  | set (S : Int → Bool) (n : Nat)
  /-- an instance of the class at C, its dict at dx, its attributes -/
  | ins (C dx : Addr) (fs : List (Str × V))
  /-- the dict of the instance at x -/
  | own (x : Addr)
  /-- the dict of an exception -/
  | xd (fs : List (Str × V))
  /-- a bound method, f of x -/
  | met (f x : Addr)
  /-- a range object lo, lo + 1, .. below hi -/
  | rng (lo hi : Int)
  /-- a thing that is known to the object (the script; a dict while a loop walks it): read, never written while it is so -/
  | frz (o : Obj) (u : HO)
  /-- a code object's table -/
  | tbl (ps : Array Value)
  /-- any other thing, by what is true of its one object (a def of one's own: SetO a S n := HO.ext fun h => ..) -/
  | ext (φ : Heap → Prop)

abbrev Hp := Addr → Option HO
def upd (H : Hp) (a : Addr) (o : HO) : Hp := fun b => if b = a then some o else H b
theorem upd_same {H : Hp} {a : Addr} {o : HO} : upd H a o a = some o := by unfold upd; rw [if_pos rfl]
theorem upd_ne {H : Hp} {a b : Addr} {o : HO} (h : b ≠ a) : upd H a o b = H b := by unfold upd; rw [if_neg h]
theorem upd_upd {H : Hp} {a : Addr} {o u : HO} : upd (upd H a o) a u = upd H a u := by
  funext b; unfold upd; split <;> rfl
/-- two objects of different content stand apart -/
theorem ne_of {H : Hp} {a b : Addr} {o u : HO} (h : H a = some o) (h' : H b = some u) (d : o ≠ u) : a ≠ b := by
  intro e; subst e; rw [h] at h'; exact d (Option.some.inj h')
theorem ne_of_none {H : Hp} {a b : Addr} {o : HO} (h : H a = some o) (h' : H b = none) : a ≠ b := by
  intro e; subst e; rw [h] at h'; cases h'

section
variable (P : Program) (w : World)
def ObjOk (H : Hp) (h : Heap) (a : Addr) : HO → Prop
  | .lst xs => xs.length ≤ sizeLine ∧ ∃ (its : List Value) (n : Nat), Vals xs its ∧ h.get? a = some { cls := .type "list", data := .seq its.toArray n }
  | .tup xs => xs.length ≤ sizeLine ∧ ∃ its : List Value, Vals xs its ∧ IsTup h a its.toArray
  | .dK kvs => kvs.length ≤ sizeLine ∧ (a == sysModules) = false ∧ ∃ vs, KV kvs vs ∧ h.DictOf (mixKind P w) a vs
  | .dT kvs => kvs.length ≤ sizeLine ∧ (a == sysModules) = false ∧ ∃ xs : List (List Key × Addr × Value),
      Paired (fun (p : List Key × V) (q : List Key × Addr × Value) => p.1 = q.1 ∧ H q.2.1 = some (.tup (p.1.map kV)) ∧ RelV p.2 q.2.2) kvs xs ∧
      ∃ o es ep, h.get? a = some o ∧ o.ExactDict ∧ o.data = .dict es ep ∧ es.toList = xs.map (entryOfKey (tupleKind (mixKind P w))) ∧ (xs.map (·.1)).Nodup
  | .set S n => h.SetOf (intKind P w) a S n
  | .ins C dx fs => H dx = some (.own a) ∧ fs.length ≤ 1000 ∧ dx ≠ a ∧ h.get? a = some (PySem.W.instObj C dx) ∧
      ∃ mA, h.Ns1 dx mA ∧ (∀ f, RelO (fs.lookup f) (mA f)) ∧ PySem.Within mA (fs.map (·.1))
  | .own _ => ∃ o, h.get? a = some o
  | .xd fs => ∃ mA, h.Ns1 a mA ∧ ∀ f, RelO (fs.lookup f) (mA f)
  | .rng lo hi => ∃ t u v, h.get? a = some { cls := .type "range", data := .fields #[.int lo t, .int hi u, .int 1 v] }
  | .frz o u => h.get? a = some o ∧ ObjOk H h a u
  | .tbl ps => h.get? a = some { cls := .none, data := .fields ps }
  | .met f x => h.get? a = some (PySem.W.methodObj (.ref f) (.ref x))
  | .ext φ => φ h ∧ (∃ o, h.get? a = some o) ∧ ∀ h1 h2 : Heap, φ h1 → (∀ o, h1.get? a = some o → h2.get? a = some o) → φ h2
/-- the abstract heap is held -/
def HOk (H : Hp) (h : Heap) : Prop := ∀ a o, H a = some o → ObjOk P w H h a o
end

section
variable {P : Program} {w : World} {H H' : Hp} {h h' : Heap} {a : Addr} {o : HO}
theorem ObjOk.lt (x : ObjOk P w H h a o) : a < h.objs.size := by
  cases o with
  | lst xs => obtain ⟨_, _, _, _, e⟩ := x; exact Heap.lt_size e
  | tup xs => obtain ⟨_, _, _, p⟩ := x; exact p.lt
  | dK kvs => obtain ⟨_, _, _, _, o, _, _, e, _⟩ := x; exact Heap.lt_size e
  | dT kvs => obtain ⟨_, _, _, _, o, _, _, e, _⟩ := x; exact Heap.lt_size e
  | set S n => obtain ⟨o, _, _, _, e, _⟩ := x; exact Heap.lt_size e
  | ins C dx fs => obtain ⟨_, _, _, e, _⟩ := x; exact Heap.lt_size e
  | own y => obtain ⟨_, e⟩ := x; exact Heap.lt_size e
  | xd fs => obtain ⟨_, ⟨_, _, _, e, _⟩, _⟩ := x; exact Heap.lt_size e
  | rng lo hi => obtain ⟨_, _, _, e⟩ := x; exact Heap.lt_size e
  | frz ob u => obtain ⟨e, _⟩ := x; exact Heap.lt_size e
  | tbl ps => exact Heap.lt_size (show h.get? a = some _ from x)
  | met f y => exact Heap.lt_size (show h.get? a = some _ from x)
  | ext φ => obtain ⟨_, ⟨_, e⟩, _⟩ := x; exact Heap.lt_size e
theorem Paired.mapP {α β : Type} {F G : α → β → Prop} : ∀ {l₁ : List α} {l₂ : List β}, Paired F l₁ l₂ → (∀ a b, F a b → G a b) → Paired G l₁ l₂
  | _, _, .nil, _ => .nil
  | _, _, .cons r t, f => .cons (f _ _ r) (Paired.mapP t f)
/-- what an object's description leans on: its own object, its own dict, the tuples -/
theorem ObjOk.stay (x : ObjOk P w H h a o) (k : ∀ b u, (b = a ∨ H b = some (.own a)) → h.get? b = some u → h'.get? b = some u)
    (ho : ∀ b, H b = some (.own a) → H' b = some (.own a)) (ht : ∀ b xs, H b = some (.tup xs) → H' b = some (.tup xs)) : ObjOk P w H' h' a o := by
  induction o with
  | lst xs => obtain ⟨z, its, n, r, e⟩ := x; exact ⟨z, its, n, r, k _ _ (.inl rfl) e⟩
  | tup xs => obtain ⟨z, its, r, ob, e, c⟩ := x; exact ⟨z, its, r, ob, k _ _ (.inl rfl) e, c⟩
  | dK kvs => obtain ⟨z, y, vs, r, ob, es, ep, e, c⟩ := x; exact ⟨z, y, vs, r, ob, es, ep, k _ _ (.inl rfl) e, c⟩
  | dT kvs =>
    obtain ⟨z, y, xs, r, ob, es, ep, e, c⟩ := x
    exact ⟨z, y, xs, Paired.mapP r fun p q z => ⟨z.1, ht _ _ z.2.1, z.2.2⟩, ob, es, ep, k _ _ (.inl rfl) e, c⟩
  | set S n => obtain ⟨ob, es, ep, t, e, c⟩ := x; exact ⟨ob, es, ep, t, k _ _ (.inl rfl) e, c⟩
  | ins C dx fs =>
    obtain ⟨d, z, ne, e, mA, ⟨od, es, ep, e2, c⟩, r⟩ := x
    exact ⟨ho _ d, z, ne, k _ _ (.inl rfl) e, mA, ⟨od, es, ep, k _ _ (.inr d) e2, c⟩, r⟩
  | own y => obtain ⟨ob, e⟩ := x; exact ⟨ob, k _ _ (.inl rfl) e⟩
  | xd fs => obtain ⟨mA, ⟨od, es, ep, e, c⟩, r⟩ := x; exact ⟨mA, ⟨od, es, ep, k _ _ (.inl rfl) e, c⟩, r⟩
  | rng lo hi => obtain ⟨t, u, v, e⟩ := x; exact ⟨t, u, v, k _ _ (.inl rfl) e⟩
  | frz ob u ih => obtain ⟨e, q⟩ := x; exact ⟨k _ _ (.inl rfl) e, ih q⟩
  | tbl ps =>
    have e : h.get? a = some { cls := .none, data := .fields ps } := x
    show h'.get? a = some { cls := .none, data := .fields ps }
    exact k a _ (.inl rfl) e
  | met f y =>
    have e : h.get? a = some (PySem.W.methodObj (.ref f) (.ref y)) := x
    show h'.get? a = some (PySem.W.methodObj (.ref f) (.ref y))
    exact k a _ (.inl rfl) e
  | ext φ => obtain ⟨p, ⟨o, e⟩, st⟩ := x; exact ⟨st _ _ p fun o q => k _ _ (.inl rfl) q, ⟨o, k _ _ (.inl rfl) e⟩, st⟩
theorem HOk.lt (x : HOk P w H h) (e : H a = some o) : a < h.objs.size := (x a o e).lt
theorem HOk.fresh (x : HOk P w H h) (e : h.objs.size ≤ a) : H a = none := by
  cases q : H a with
  | none => rfl
  | some u => exact absurd (Nat.lt_of_lt_of_le (x.lt q) e) (Nat.lt_irrefl _)
/-- every object of the heap is kept -/
theorem HOk.kept (x : HOk P w H h) (k : ∀ b u, h.get? b = some u → h'.get? b = some u) : HOk P w H h' := fun a o e =>
  (x a o e).stay (fun b u _ q => k b u q) (fun _ q => q) fun _ _ q => q
/-- a new object is laid and tracked -/
theorem HOk.laid (x : HOk P w H h) (k : ∀ b u, h.get? b = some u → h'.get? b = some u) (hp : h.objs.size ≤ a) (new : ObjOk P w (upd H a o) h' a o) : HOk P w (upd H a o) h' := fun b u e => by
  have hn := x.fresh hp
  by_cases hb : b = a
  · subst hb; rw [upd_same] at e; cases e; exact new
  · rw [upd_ne hb] at e
    exact (x b u e).stay (fun c v _ q => k c v q) (fun c q => by rw [upd_ne (ne_of_none q hn)]; exact q) fun c xs q => by rw [upd_ne (ne_of_none q hn)]; exact q
end

/-- what may be read as u: it is u, or a known u -/
def Rd (H : Hp) (a : Addr) (u : HO) : Prop := H a = some u ∨ ∃ o, H a = some (.frz o u)
theorem Rd.of {H : Hp} {a : Addr} {u : HO} (h : H a = some u) : Rd H a u := .inl h
theorem Rd.ok {P : Program} {w : World} {H : Hp} {h : Heap} {a : Addr} {u : HO} (r : Rd H a u) (x : HOk P w H h) : ObjOk P w H h a u := by
  rcases r with r | ⟨o, r⟩
  · exact x a u r
  · obtain ⟨_, q⟩ := x a _ r
    exact q
/-- what may be written -/
def Mut : Option HO → Prop
  | some (.lst _) => True
  | some (.dK _) => True
  | some (.dT _) => True
  | some (.set _ _) => True
  | some (.ins _ _ _) => True
  | some (.ext _) => True
  | _ => False
section
variable {P : Program} {w : World} {H : Hp} {h h' : Heap} {x e : Addr} {o' : HO}
/-- the object at e is changed: x itself, or the dict of the instance x -/
theorem HOk.write (ok : HOk P w H h) (mu : Mut (H x)) (he : e = x ∨ H e = some (.own x)) (k : ∀ b u, b ≠ e → h.get? b = some u → h'.get? b = some u) (heo : ∃ u, h'.get? e = some u)
    (new : ObjOk P w (upd H x o') h' x o') : HOk P w (upd H x o') h' := fun b u q => by
  have nown : ∀ c y, H c = some (.own y) → c ≠ x := fun c y r z => by subst z; rw [r] at mu; exact mu
  have ntup : ∀ c xs, H c = some (.tup xs) → c ≠ x := fun c xs r z => by subst z; rw [r] at mu; exact mu
  by_cases hb : b = x
  · subst hb; rw [upd_same] at q; cases q; exact new
  · rw [upd_ne hb] at q
    by_cases hbe : b = e
    · have q' : H b = some (.own x) := by
        rcases he with z | z
        · exact absurd (hbe.trans z) hb
        · rw [hbe]; exact z
      rw [q] at q'; cases q'
      obtain ⟨v, hv⟩ := heo
      exact ⟨v, by rw [hbe]; exact hv⟩
    · refine (ok b u q).stay (fun c v hc r => k c v ?_ r) (fun c r => by rw [upd_ne (nown c b r)]; exact r) fun c xs r => by rw [upd_ne (ntup c xs r)]; exact r
      rcases hc with rfl | hc
      · exact hbe
      · rintro rfl
        rcases he with z | z
        · exact nown c b hc z
        · rw [hc] at z; cases z; exact hb rfl
end

/-! ### kept unless tracked; of the frames at fs (the callers') the slots may change (an exception that passes writes there); of the records at ex (iterators) nothing is said -/
structure Un (fs ex : List Addr) (H H' : Hp) (h h' : Heap) : Prop where
  keep : ∀ b o, h.get? b = some o → H b = none → b ∉ fs → b ∉ ex → h'.get? b = some o
  slot : ∀ b o, h.get? b = some o → H b = none → b ∈ fs → b ∉ ex → ∃ sl, h'.get? b = some { o with slots := sl }
  free : ∀ b o, h.get? b = some o → H b = none → b ∉ ex → H' b = none
  there : ∀ b o, h.get? b = some o → b ∉ ex → ∃ o', h'.get? b = some o'
  tups : ∀ b xs, H b = some (.tup xs) → H' b = some (.tup xs)
  frzs : ∀ b o u, H b = some (.frz o u) → H' b = some (.frz o u)
  tbls : ∀ b ps, H b = some (.tbl ps) → ∃ more, H' b = some (.tbl (ps ++ more))
section
variable {fs fs' ex ex' : List Addr} {H H1 H2 : Hp} {h h1 h2 h' : Heap} {a x e : Addr} {o : HO}
theorem Un.any (u : Un fs ex H H1 h h1) {b : Addr} {ob : Obj} (q : h.get? b = some ob) (n : H b = none) (hx : b ∉ ex) : ∃ sl, h1.get? b = some { ob with slots := sl } := by
  by_cases hb : b ∈ fs
  · exact u.slot b ob q n hb hx
  · exact ⟨ob.slots, u.keep b ob q n hb hx⟩
theorem Un.trans (a : Un fs ex H H1 h h1) (b : Un fs ex H1 H2 h1 h2) : Un fs ex H H2 h h2 where
  keep := fun c ob q n hc hx => b.keep c ob (a.keep c ob q n hc hx) (a.free c ob q n hx) hc hx
  slot := fun c ob q n hc hx => by
    obtain ⟨sl, e1⟩ := a.slot c ob q n hc hx
    obtain ⟨sl', e2⟩ := b.slot c _ e1 (a.free c ob q n hx) hc hx
    exact ⟨sl', e2⟩
  free := fun c ob q n hx => by
    obtain ⟨o', e1⟩ := a.there c ob q hx
    exact b.free c o' e1 (a.free c ob q n hx) hx
  there := fun c ob q hx => by
    obtain ⟨o', e1⟩ := a.there c ob q hx
    exact b.there c o' e1 hx
  tups := fun c xs q => b.tups c xs (a.tups c xs q)
  frzs := fun c ob xs q => b.frzs c ob xs (a.frzs c ob xs q)
  tbls := fun c ps q => by
    obtain ⟨m1, e1⟩ := a.tbls c ps q
    obtain ⟨m2, e2⟩ := b.tbls c _ e1
    exact ⟨m1 ++ m2, by rw [e2, Array.append_assoc]⟩
theorem Un.kept (k : ∀ b u, h.get? b = some u → h'.get? b = some u) : Un fs ex H H h h' :=
  ⟨fun b ob q _ _ _ => k b ob q, fun b ob q _ _ _ => ⟨ob.slots, k b ob q⟩, fun _ _ _ n _ => n, fun b ob q _ => ⟨ob, k b ob q⟩, fun _ _ q => q, fun _ _ _ q => q, fun _ ps q => ⟨#[], by rw [q]; simp⟩⟩
theorem Un.refl : Un fs ex H H h h := Un.kept fun _ _ q => q
theorem Un.laid (k : ∀ b u, h.get? b = some u → h'.get? b = some u) (hp : h.objs.size ≤ a) (hn : H a = none) : Un fs ex H (upd H a o) h h' where
  keep := fun b u q _ _ _ => k b u q
  slot := fun b u q _ _ _ => ⟨u.slots, k b u q⟩
  free := fun b u q n _ => by rw [upd_ne (Nat.ne_of_lt (Nat.lt_of_lt_of_le (Heap.lt_size q) hp))]; exact n
  there := fun b u q _ => ⟨u, k b u q⟩
  tups := fun b xs q => by rw [upd_ne (ne_of_none q hn)]; exact q
  frzs := fun b u xs q => by rw [upd_ne (ne_of_none q hn)]; exact q
  tbls := fun b ps q => ⟨#[], by rw [upd_ne (ne_of_none q hn), q]; simp⟩
theorem Un.write (mu : Mut (H x)) (he : e = x ∨ H e = some (.own x)) (k : ∀ b u, b ≠ e → h.get? b = some u → h'.get? b = some u) (heo : ∃ u, h'.get? e = some u) : Un fs ex H (upd H x o) h h' := by
  have hx : ∀ b, H b = none → b ≠ x := fun b n z => by subst z; rw [n] at mu; exact mu
  have hb : ∀ b, H b = none → b ≠ e := fun b n z => by
    subst z
    rcases he with r | r
    · exact hx b n r
    · rw [n] at r; cases r
  have hm : ∀ b u, H b = some u → ¬ Mut (some u) → b ≠ x := fun b u q nm z => by subst z; rw [q] at mu; exact nm mu
  refine ⟨fun b u q n _ _ => k b u (hb b n) q, fun b u q n _ _ => ⟨u.slots, k b u (hb b n) q⟩, fun b u q n _ => by rw [upd_ne (hx b n)]; exact n, fun b u q _ => ?_,
    fun b xs q => by rw [upd_ne (hm b _ q fun z => z)]; exact q, fun b u xs q => by rw [upd_ne (hm b _ q fun z => z)]; exact q, fun b ps q => ⟨#[], by rw [upd_ne (hm b _ q fun z => z), q]; simp⟩⟩
  by_cases hbe : b = e
  · subst hbe; exact heo
  · exact ⟨u, k b u hbe q⟩
theorem Un.mono (u : Un fs ex H H1 h h1) (hs : ∀ b ∈ fs, b ∈ fs') (hx : ∀ b ∈ ex, b ∈ ex') : Un fs' ex' H H1 h h1 :=
  ⟨fun b ob q n hb he => u.keep b ob q n (fun z => hb (hs b z)) fun z => he (hx b z), fun _ _ q n _ he => u.any q n fun z => he (hx _ z), fun b ob q n he => u.free b ob q n fun z => he (hx b z), fun b ob q he => u.there b ob q fun z => he (hx b z), u.tups, u.frzs, u.tbls⟩
end

/-! ### the heap without what is tracked -/
def trk (h : Heap) (H : Hp) : List Addr := (List.range h.objs.size).filter fun a => (H a).isSome
def hidT (h : Heap) (H : Hp) : Heap := PySem.W.hideAll h (trk h H)
theorem hidT_size (h : Heap) (H : Hp) : (hidT h H).objs.size = h.objs.size := PySem.W.hideAll_size _ _
theorem hidT_get {h : Heap} {H : Hp} {b : Addr} {o : Obj} (e : h.get? b = some o) (n : H b = none) : (hidT h H).get? b = some o :=
  PySem.W.hideAll_get _ e fun hm => by
    have q : (H b).isSome = true := (List.mem_filter.mp hm).2
    rw [n] at q; simp at q
theorem of_hidT {h : Heap} {H : Hp} {b : Addr} {o : Obj} (e : (hidT h H).get? b = some o) : h.get? b = some o ∧ H b = none := by
  have e' : h.get? b = some o := PySem.W.of_hideAll (trk h H) e
  refine ⟨e', ?_⟩
  cases q : H b with
  | none => rfl
  | some x =>
    have hm : b ∈ trk h H := List.mem_filter.mpr ⟨List.mem_range.mpr (Heap.lt_size e'), by simp [q]⟩
    have z : (hidT h H).get? b = none := PySem.W.hideAll_none (trk h H) hm
    rw [z] at e; cases e

/-! ### OpenK's ledger, filled with every new object but one -/
def allNews (g h : Heap) (L : Addr) : List (Addr × Obj) := (List.range h.objs.size).filterMap fun a => if a = L ∨ (g.get? a).isSome = true then none else (h.get? a).map fun o => (a, o)
def rest (g h : Heap) (L d : Addr) : List (Addr × Obj) := (allNews g h L).filter fun p => decide (p.1 ≠ d)
end L2

namespace L2
open PySem PySem.Spec PyProof.Rows

/-- the module's facts, over the base: the heap at the law's entry without what is tracked there -/
structure Mod (K : PySem.W.Frag) (mg : Str → Option Value) (base : Heap) : Prop where
  kin : K.In base
  glob : base.Ns mainGlobals mg
  blt : ∃ mb, base.Ns builtinsNs mb ∧ ∀ x : Str, x ≠ "__name__" → mb x = bootBuiltins x
  nolimit : base.NoLimit

/-- the context: a def's body (or a comprehension's block) running. base: fixed through the whole law; s₀, H₀: the entry; outer: the frames whose slots others may change (a def's callers); stack: all frames that run;
   ex: iterators that were made ahead of the entry and are walked here (a comprehension's); fn: the names whose cells were made at the entry (a def: all; a comprehension's block: its own); calm: not within an except suite; pn: pins that every state bears; xe: what is wanted of an exception that leaves the code -/
structure Cx where
  prog : Program
  w : World
  K : PySem.W.Frag
  mg : Str → Option Value
  base : Heap
  A : Around
  N : List Str
  s_0 : Shared
  H_0 : Hp
  env : Env
  outer : List Env
  stack : List Env
  ex : List Addr
  fn : Str → Bool
  calm : Bool
  pn : List (Addr × Obj)
  xe : Value → Shared → Prop
/-- the callers' frames -/
def frs (l : List Env) : List Addr := l.filterMap (·.frame)
abbrev Cx.fs (X : Cx) : List Addr := frs X.outer

def Vis (sc : Scope) (x : Str) : Prop := sc.names.lookup x = some .local ∨ sc.names.lookup x = some .cell ∨ sc.names.lookup x = some .free
def Loc (sc : Scope) (x : Str) : Prop := sc.names.lookup x = some .local ∨ sc.names.lookup x = some .cell
def Look (env : Env) (h : Heap) (m : Str → Option Value) (x : Str) (u : Value) : Prop :=
  (env.kindOf x = some .local ∧ m x = some u) ∨ ((env.kindOf x = some .cell ∨ env.kindOf x = some .free) ∧ ∃ c, env.cells.lookup x = some c ∧ h.IsCell c (some u))

structure Cx.Ok (X : Cx) : Prop where
  mod : Mod X.K X.mg X.base
  kind : X.env.scope.kind = .function
  glob : X.env.globals = mainGlobals
  blt : X.env.builtins = builtinsNs
  above : X.s_0.heap.objs.size ≤ X.env.locals
  inj : ∀ x y c, X.env.cells.lookup x = some c → X.env.cells.lookup y = some c → x = y
  has : ∀ x, (X.env.kindOf x = some .cell ∨ X.env.kindOf x = some .free) → ∃ c, X.env.cells.lookup x = some c
  cab : ∀ x c, X.fn x = true → X.env.cells.lookup x = some c → X.s_0.heap.objs.size ≤ c
  hd : X.calm = true → X.A.handled = none
  frames : X.A.frames = some X.stack
  stk : X.stack = X.outer ∨ (X.stack = X.env :: X.outer ∧ X.env.frame = some X.env.locals)
  exf : ∀ b ∈ X.ex, b ≠ X.env.locals ∧ ∀ x c, X.env.cells.lookup x = some c → c ≠ b
  bs : ∀ b o, X.base.get? b = some o → X.s_0.heap.get? b = some o ∧ X.H_0 b = none
  bsz : X.base.objs.size ≤ X.s_0.heap.objs.size
  noex : ∀ b o, X.base.get? b = some o → b ∉ X.ex
  exfs : ∀ b ∈ X.ex, b ∉ X.fs
  funs : X.s_0.heap.FunFrames X.base X.outer
  frf : ∀ b ∈ X.fs, X.H_0 b = none

structure Inv (X : Cx) (pins : List (Addr × Obj)) (σ : List (Option V)) (H : Hp) (s : Shared) : Prop where
  ok : X.Ok
  os : s.os = X.s_0.os
  bare : AllBare s.gens
  base : Un X.fs X.ex X.H_0 H X.s_0.heap s.heap
  loc : ∃ m, s.heap.Ns X.env.locals m ∧ ∀ (i : Nat) (x : Str) (v : V), X.N[i]? = some x → σ[i]? = some (some v) → Vis X.env.scope x → ∃ u, RelV v u ∧ Look X.env s.heap m x u
  cell : ∀ x c, X.env.cells.lookup x = some c → ∃ v, s.heap.IsCell c v
  free : H X.env.locals = none
  freeC : ∀ x c, X.env.cells.lookup x = some c → H c = none
  pin : ∀ p ∈ X.pn ++ pins, s.heap.get? p.1 = some p.2 ∧ H p.1 = none ∧ p.1 ≠ X.env.locals ∧ p.1 ∉ X.fs ∧ ∀ v, p.2.data ≠ .cell v
  hok : HOk X.prog X.w H s.heap
  len : σ.length = X.N.length

section
variable {X : Cx} {pins : List (Addr × Obj)} {σ : List (Option V)} {H H' : Hp} {s : Shared} {h' : Heap}

theorem Cx.Ok.nofr (ok : X.Ok) {b : Addr} {o : Obj} (e : X.base.get? b = some o) : b ∉ X.fs := fun hb => by
  have := (ok.funs.mem hb).1
  rw [e] at this; cases this
theorem Inv.bs (I : Inv X pins σ H s) : ∀ b o, X.base.get? b = some o → s.heap.get? b = some o ∧ H b = none := fun b o e =>
  ⟨I.base.keep b o (I.ok.bs b o e).1 (I.ok.bs b o e).2 (I.ok.nofr e) (I.ok.noex b o e), I.base.free b o (I.ok.bs b o e).1 (I.ok.bs b o e).2 (I.ok.noex b o e)⟩
theorem Inv.bk (I : Inv X pins σ H s) : ∀ b o, X.base.get? b = some o → s.heap.get? b = some o := fun b o e => (I.bs b o e).1
theorem Inv.mod (I : Inv X pins σ H s) : Mod X.K X.mg X.base := I.ok.mod
theorem Inv.kIn (I : Inv X pins σ H s) : X.K.In s.heap := I.ok.mod.kin.keeps I.bk
theorem Inv.nolimit (I : Inv X pins σ H s) : s.heap.NoLimit := I.ok.mod.nolimit.keeps I.bk
/-- the frame over the base: for OpenK's rules (K.In X.base is I.mod.kin) -/
theorem Inv.fr (I : Inv X pins σ H s) : ∃ m, Fr X.base X.env.locals s.heap m :=
  let ⟨m, hn, _⟩ := I.loc
  ⟨m, hn, I.bk, Nat.le_trans I.ok.bsz I.ok.above⟩
theorem Inv.lt (I : Inv X pins σ H s) : X.env.locals < s.heap.objs.size := let ⟨_, hn, _⟩ := I.loc; hn.lt
theorem Inv.sz (I : Inv X pins σ H s) : X.s_0.heap.objs.size ≤ s.heap.objs.size := Nat.le_trans I.ok.above (Nat.le_of_lt I.lt)
theorem Inv.nofs (I : Inv X pins σ H s) {a : Addr} (h : s.heap.objs.size ≤ a) : a ∉ X.fs := fun hb => by
  obtain ⟨_, o, ho, _⟩ := I.ok.funs.mem hb
  exact absurd (Nat.lt_of_lt_of_le (Heap.lt_size ho) (Nat.le_trans I.sz h)) (Nat.lt_irrefl _)
theorem Inv.cne (I : Inv X pins σ H s) : ∀ x c, X.env.cells.lookup x = some c → c ≠ X.env.locals := fun x c e z => by
  obtain ⟨v, o, ho, hd⟩ := I.cell x c e
  obtain ⟨m, ⟨o', es, ep, ho', hd', _⟩, _⟩ := I.loc
  rw [z, ho'] at ho; cases ho; rw [hd'] at hd; cases hd
theorem Inv.funs (I : Inv X pins σ H s) : s.heap.FunFrames X.base X.outer := by
  have all : ∀ (l : List Env), (∀ b ∈ frs l, b ∈ X.fs) → X.s_0.heap.FunFrames X.base l → s.heap.FunFrames X.base l := by
    intro l
    induction l with
    | nil => intro _ _; trivial
    | cons env r ih =>
      intro hs hl
      obtain ⟨hk, ⟨L, o, hf, hn, ho, hd⟩, hr⟩ := hl
      have hL : L ∈ X.fs := hs L (by unfold frs; rw [List.filterMap_cons, hf]; exact List.mem_cons_self)
      obtain ⟨sl, e⟩ := I.base.slot L o ho (I.ok.frf L hL) hL fun z => I.ok.exfs L z hL
      exact ⟨hk, ⟨L, _, hf, hn, e, hd⟩, ih (fun b hb => hs b (by unfold frs; rw [List.filterMap_cons, hf]; exact List.mem_cons_of_mem _ hb)) hr⟩
  exact all X.outer (fun _ hb => hb) I.ok.funs

/-- the frames that run, for a call -/
theorem Inv.stack (I : Inv X pins σ H s) : s.heap.FunFrames X.base X.stack := by
  rcases I.ok.stk with e | ⟨e, hf⟩
  · rw [e]; exact I.funs
  · rw [e]
    obtain ⟨m, hn, _⟩ := I.loc
    refine .cons (by rw [I.ok.kind]; decide) hf hn ?_ I.funs
    exact Heap.get?_none_of_le (Nat.le_trans I.ok.bsz I.ok.above)
theorem Inv.stkSub (I : Inv X pins σ H s) : ∀ b ∈ frs X.stack, b ∈ X.env.locals :: X.fs := fun b hb => by
  rcases I.ok.stk with e | ⟨e, hf⟩
  · rw [e] at hb; exact List.mem_cons_of_mem _ hb
  · rw [e] at hb
    unfold frs at hb
    rw [List.filterMap_cons, hf] at hb
    exact hb
theorem Inv.stkFree (I : Inv X pins σ H s) : ∀ b ∈ frs X.stack, H b = none := fun b hb => by
  rcases List.mem_cons.mp (I.stkSub b hb) with e | hb
  · rw [e]; exact I.free
  · obtain ⟨_, o, ho, _⟩ := I.ok.funs.mem hb
    exact I.base.free b o ho (I.ok.frf b hb) fun z => I.ok.exfs b z hb

/-- THE STEP: the untracked objects but the frame and the records at ch are kept (the callers' frames up to slots), the frame's map is kept, the new abstract heap is held -/
theorem Inv.step {g' : Array GenState} {t' : Nat} {d' : Drawn} {ch : List Addr} (I : Inv X pins σ H s)
    (hch : ∀ b ∈ ch, (b ∈ X.ex ∨ X.s_0.heap.objs.size ≤ b) ∧ b ≠ X.env.locals ∧ (∀ x c, X.env.cells.lookup x = some c → c ≠ b) ∧ ∀ p ∈ X.pn ++ pins, p.1 ≠ b)
    (keep : ∀ b o, b ≠ X.env.locals → b ∉ X.fs → b ∉ ch → s.heap.get? b = some o → H b = none → h'.get? b = some o)
    (slot : ∀ b o, b ≠ X.env.locals → b ∈ X.fs → b ∉ ch → s.heap.get? b = some o → H b = none → ∃ sl, h'.get? b = some { o with slots := sl }) (free : ∀ b o, b ∉ ch → s.heap.get? b = some o → H b = none → H' b = none)
    (there : ∀ b o, b ∉ ch → s.heap.get? b = some o → ∃ o', h'.get? b = some o')
    (tups : ∀ b xs, H b = some (.tup xs) → H' b = some (.tup xs)) (frzs : ∀ b o u, H b = some (.frz o u) → H' b = some (.frz o u)) (tbls : ∀ b ps, H b = some (.tbl ps) → ∃ more, H' b = some (.tbl (ps ++ more)))
    (ns : ∀ m, s.heap.Ns X.env.locals m → h'.Ns X.env.locals m) (hok : HOk X.prog X.w H' h') (hg : AllBare g') :
    Inv X pins σ H' { s with heap := h', gens := g', drawn := d', toks := t' } := by
  have neL : ∀ b o, X.s_0.heap.get? b = some o → b ≠ X.env.locals := fun b o e => Nat.ne_of_lt (Nat.lt_of_lt_of_le (Heap.lt_size e) I.ok.above)
  have neC : ∀ b o, X.s_0.heap.get? b = some o → b ∉ X.ex → b ∉ ch := fun b o e hx hb => by
    rcases (hch b hb).1 with z | z
    · exact hx z
    · exact absurd (Nat.lt_of_lt_of_le (Heap.lt_size e) z) (Nat.lt_irrefl _)
  have cellK : ∀ x c, X.env.cells.lookup x = some c → ∀ v, s.heap.IsCell c v → h'.IsCell c v := fun x c e v ⟨o, ho, hd⟩ => by
    have nch : c ∉ ch := fun z => (hch c z).2.2.1 x c e rfl
    by_cases hc : c ∈ X.fs
    · obtain ⟨sl, q⟩ := slot c o (I.cne x c e) hc nch ho (I.freeC x c e)
      exact ⟨_, q, hd⟩
    · exact ⟨o, keep c o (I.cne x c e) hc nch ho (I.freeC x c e), hd⟩
  refine ⟨I.ok, I.os, hg, ⟨fun b o e n hb hx => ?_, fun b o e n hb hx => ?_, fun b o e n hx => ?_, fun b o e hx => ?_, fun b xs e => tups b xs (I.base.tups b xs e), fun b o xs e => frzs b o xs (I.base.frzs b o xs e), fun b ps e => ?_⟩, ?_, fun x c e => ?_, ?_, fun x c e => ?_, fun p hp => ?_, hok, I.len⟩
  · exact keep b o (neL b o e) hb (neC b o e hx) (I.base.keep b o e n hb hx) (I.base.free b o e n hx)
  · obtain ⟨sl, e1⟩ := I.base.slot b o e n hb hx
    obtain ⟨sl', e2⟩ := slot b _ (neL b o e) hb (neC b o e hx) e1 (I.base.free b o e n hx)
    exact ⟨sl', e2⟩
  · obtain ⟨o', e1⟩ := I.base.there b o e hx
    exact free b o' (neC b o e hx) e1 (I.base.free b o e n hx)
  · obtain ⟨o', e1⟩ := I.base.there b o e hx
    exact there b o' (neC b o e hx) e1
  · obtain ⟨m1, e1⟩ := I.base.tbls b ps e
    obtain ⟨m2, e2⟩ := tbls b _ e1
    exact ⟨m1 ++ m2, by rw [e2, Array.append_assoc]⟩
  · obtain ⟨m, hn, hl⟩ := I.loc
    refine ⟨m, ns m hn, fun i x v e1 e2 e3 => ?_⟩
    obtain ⟨u, r, l⟩ := hl i x v e1 e2 e3
    refine ⟨u, r, ?_⟩
    rcases l with l | ⟨k, c, e, z⟩
    · exact .inl l
    · exact .inr ⟨k, c, e, cellK x c e _ z⟩
  · obtain ⟨v, z⟩ := I.cell x c e
    exact ⟨v, cellK x c e v z⟩
  · obtain ⟨m, ⟨o, _, _, ho, _⟩, _⟩ := I.loc
    exact free _ o (fun z => (hch _ z).2.1 rfl) ho I.free
  · obtain ⟨v, o, ho, hd⟩ := I.cell x c e
    exact free c o (fun z => (hch c z).2.2.1 x c e rfl) ho (I.freeC x c e)
  · obtain ⟨e, n, ne, nf, d⟩ := I.pin p hp
    have nch : p.1 ∉ ch := fun z => (hch p.1 z).2.2.2 p hp rfl
    exact ⟨keep p.1 p.2 ne nf nch e n, free p.1 p.2 nch e n, ne, nf, d⟩
/-- .. where the frame's own object is kept too -/
theorem Inv.un {t' : Nat} (I : Inv X pins σ H s) (u : Un X.fs [] H H' s.heap h') (hok : HOk X.prog X.w H' h') : Inv X pins σ H' { s with heap := h', toks := t' } := by
  obtain ⟨m, ⟨o, es, ep, ho, r⟩, _⟩ := id I.loc
  obtain ⟨sl, hL⟩ := u.any ho I.free (by simp)
  exact I.step (g' := s.gens) (d' := s.drawn) (ch := []) (fun _ z => nomatch z) (fun b o _ hb _ e n => u.keep b o e n hb (by simp)) (fun b o _ hb _ e n => u.slot b o e n hb (by simp)) (fun b o _ e n => u.free b o e n (by simp)) (fun b o _ e => u.there b o e (by simp)) u.tups u.frzs u.tbls (fun m' hm => by
    obtain ⟨o', es', ep', ho', r'⟩ := hm
    rw [ho] at ho'; cases ho'
    exact ⟨_, es', ep', hL, r'⟩) hok I.bare
/-- behind a call (or a comprehension's block): the slots of this frame may have changed too, the records at ch may have turned -/
theorem Inv.call {g' : Array GenState} {t' : Nat} {d' : Drawn} {ch : List Addr} (I : Inv X pins σ H s) (u : Un (frs X.stack) ch H H' s.heap h') (hok : HOk X.prog X.w H' h') (hg : AllBare g')
    (hch : ∀ b ∈ ch, (b ∈ X.ex ∨ X.s_0.heap.objs.size ≤ b) ∧ b ≠ X.env.locals ∧ (∀ x c, X.env.cells.lookup x = some c → c ≠ b) ∧ ∀ p ∈ X.pn ++ pins, p.1 ≠ b) :
    Inv X pins σ H' { s with heap := h', gens := g', drawn := d', toks := t' } := by
  obtain ⟨m, ⟨o, es, ep, ho, r⟩, _⟩ := id I.loc
  obtain ⟨sl, hL⟩ := u.any ho I.free fun z => (hch _ z).2.1 rfl
  exact I.step (ch := ch) hch (fun b o hL hb hc e n => u.keep b o e n (fun z => (List.mem_cons.mp (I.stkSub b z)).elim hL hb) hc) (fun b o _ _ hc e n => u.any e n hc) (fun b o hc e n => u.free b o e n hc) (fun b o hc e => u.there b o e hc) u.tups u.frzs u.tbls (fun m' hm => by
    obtain ⟨o', es', ep', ho', r'⟩ := hm
    rw [ho] at ho'; cases ho'
    exact ⟨_, es', ep', hL, r'⟩) hok hg
/-- an untracked record of ours (an iterator) has turned -/
theorem Inv.turned {t' : Nat} {it : Addr} (I : Inv X pins σ H s) (k : ∀ b o, b ≠ it → s.heap.get? b = some o → h'.get? b = some o) (hn : H it = none) (hL : it ≠ X.env.locals)
    (h1 : it ∈ X.ex ∨ X.s_0.heap.objs.size ≤ it) (h2 : ∀ x c, X.env.cells.lookup x = some c → c ≠ it) (h3 : ∀ p ∈ X.pn ++ pins, p.1 ≠ it) : Inv X pins σ H { s with heap := h', toks := t' } := by
  have nit : ∀ b u, H b = some u → b ≠ it := fun b u e z => by rw [z, hn] at e; cases e
  refine I.step (g' := s.gens) (d' := s.drawn) (ch := [it]) (fun b hb => ?_) (fun b o _ _ hc e _ => k b o (fun z => hc (by simp [z])) e) (fun b o _ _ hc e _ => ⟨o.slots, k b o (fun z => hc (by simp [z])) e⟩) (fun _ _ _ _ n => n)
    (fun b o hc e => ⟨o, k b o (fun z => hc (by simp [z])) e⟩) (fun _ _ e => e) (fun _ _ _ e => e) (fun b ps e => ⟨#[], by rw [e]; simp⟩) (fun m hm => ?_) (fun b u e => ?_) I.bare
  · have e : b = it := by simpa using hb
    subst e
    exact ⟨h1, hL, h2, h3⟩
  · obtain ⟨o, es, ep, ho, r⟩ := hm
    exact ⟨o, es, ep, k _ o (Ne.symm hL) ho, r⟩
  · refine (I.hok b u e).stay (fun c v hc q => k c v ?_ q) (fun _ q => q) fun _ _ q => q
    rcases hc with z | z
    · rw [z]; exact nit b u e
    · exact nit c _ z
theorem Inv.tok (I : Inv X pins σ H s) (t : Nat) : Inv X pins σ H { s with toks := t } := I.un (h' := s.heap) (t' := t) Un.refl I.hok
/-- all objects kept -/
theorem Inv.kept {t' : Nat} (I : Inv X pins σ H s) (k : ∀ b u, s.heap.get? b = some u → h'.get? b = some u) : Inv X pins σ H { s with heap := h', toks := t' } := I.un (Un.kept k) (I.hok.kept k)
/-- a new object laid and tracked -/
theorem Inv.laid {a : Addr} {o : HO} {t' : Nat} (I : Inv X pins σ H s) (k : ∀ b u, s.heap.get? b = some u → h'.get? b = some u) (hp : s.heap.objs.size ≤ a) (new : ObjOk X.prog X.w (upd H a o) h' a o) :
    Inv X pins σ (upd H a o) { s with heap := h', toks := t' } := I.un (Un.laid k hp (I.hok.fresh hp)) (I.hok.laid k hp new)
/-- an object written -/
theorem Inv.write {x e : Addr} {o : HO} {t' : Nat} (I : Inv X pins σ H s) (mu : Mut (H x)) (he : e = x ∨ H e = some (.own x)) (k : ∀ b u, b ≠ e → s.heap.get? b = some u → h'.get? b = some u) (heo : ∃ u, h'.get? e = some u)
    (new : ObjOk X.prog X.w (upd H x o) h' x o) : Inv X pins σ (upd H x o) { s with heap := h', toks := t' } := I.un (Un.write mu he k heo) (I.hok.write mu he k heo new)
/-- forgetting slots, pins -/
theorem Inv.weak {σ' : List (Option V)} (I : Inv X pins σ H s) (hl : σ'.length = σ.length) (w : ∀ (i : Nat) v, σ'[i]? = some (some v) → σ[i]? = some (some v)) : Inv X pins σ' H s :=
  ⟨I.ok, I.os, I.bare, I.base, let ⟨m, hn, hl'⟩ := I.loc; ⟨m, hn, fun i x v e1 e2 e3 => hl' i x v e1 (w i v e2) e3⟩, I.cell, I.free, I.freeC, I.pin, I.hok, hl.trans I.len⟩
theorem Inv.pins_of {pins' : List (Addr × Obj)} (I : Inv X pins σ H s) (h : ∀ p ∈ pins', s.heap.get? p.1 = some p.2 ∧ H p.1 = none ∧ p.1 ≠ X.env.locals ∧ p.1 ∉ X.fs ∧ ∀ v, p.2.data ≠ .cell v) : Inv X pins' σ H s :=
  ⟨I.ok, I.os, I.bare, I.base, I.loc, I.cell, I.free, I.freeC, fun p hp => (List.mem_append.mp hp).elim (fun z => I.pin p (List.mem_append_left _ z)) (h p), I.hok, I.len⟩

theorem nodup_ix {N : List Str} (hN : N.Nodup) {i j : Nat} {x : Str} (a : N[i]? = some x) (b : N[j]? = some x) : i = j := by
  obtain ⟨h1, e1⟩ := List.getElem?_eq_some_iff.mp a
  obtain ⟨h2, e2⟩ := List.getElem?_eq_some_iff.mp b
  exact (List.getElem_inj hN).mp (e1.trans e2.symm)

/-- a name is stored; what changed -/
theorem store_ok2 {M : Model} {A : Around} {E : Value → Shared → Prop} {i : Nat} {x : Str} {v : V} {u : Value} {Q : Unit → Shared → Prop} (I : Inv X pins σ H s) (hN : X.N.Nodup) (hi : X.N[i]? = some x) (hx : Loc X.env.scope x) (r : RelV v u)
    (h : ∀ s', Inv X pins (σ.set i (some v)) H s' → (∃ a, Heap.SameBut a s.heap s'.heap ∧ (a = X.env.locals ∨ X.env.cells.lookup x = some a)) → Q () s') (hf : X.fn x = true ∨ X.env.scope.names.lookup x = some .local := by first | exact .inl rfl | exact .inr rfl | assumption) : wpAny M A (storeName X.env x u) Q E s := by
  obtain ⟨m, hn, hl⟩ := id I.loc
  have hcls : (X.env.scope.kind == .class || (X.env.scope.kind == .module && X.env.locals != X.env.globals)) = false := by rw [I.ok.kind]; rfl
  have hiσ : i < σ.length := by rw [I.len]; exact (List.getElem?_eq_some_iff.mp hi).1
  have cne := I.cne
  have tracked : ∀ {a : Addr} {h' : Heap}, (∃ o, s.heap.get? a = some o ∧ H a = none) → Heap.SameBut a s.heap h' → HOk X.prog X.w H h' := fun {a h'} ha hs b ob e => by
    obtain ⟨_, _, hfree⟩ := ha
    refine (I.hok b ob e).stay (fun c w' hc q => (hs.2 c ?_).trans q) (fun _ q => q) fun _ _ q => q
    rintro rfl
    rcases hc with rfl | hc
    · rw [hfree] at e; cases e
    · rw [hfree] at hc; cases hc
  rcases hx with hk | hk
  · refine wpAny_storeName_local hk hn (fun h' hn' hs => ?_) hcls
    obtain ⟨oL, _, _, hoL, _⟩ := id hn
    refine h _ ⟨I.ok, I.os, I.bare, ⟨fun b o e n hb hx => ?_, fun b o e n hb hx => ?_, I.base.free, fun b o e hx => ?_, I.base.tups, I.base.frzs, I.base.tbls⟩, ⟨_, hn', fun j y v' e1 e2 e3 => ?_⟩, fun y c e => ?_, I.free, I.freeC, fun p hp => ?_, tracked ⟨oL, hoL, I.free⟩ hs, by simpa using I.len⟩ ⟨_, hs, .inl rfl⟩
    · exact (hs.2 b (Nat.ne_of_lt (Nat.lt_of_lt_of_le (Heap.lt_size e) I.ok.above))).trans (I.base.keep b o e n hb hx)
    · obtain ⟨sl, e1⟩ := I.base.slot b o e n hb hx
      exact ⟨sl, (hs.2 b (Nat.ne_of_lt (Nat.lt_of_lt_of_le (Heap.lt_size e) I.ok.above))).trans e1⟩
    · obtain ⟨o', e1⟩ := I.base.there b o e hx
      exact ⟨o', (hs.2 b (Nat.ne_of_lt (Nat.lt_of_lt_of_le (Heap.lt_size e) I.ok.above))).trans e1⟩
    · by_cases hj : j = i
      · subst hj
        rw [hi] at e1; cases e1
        rw [List.getElem?_set_self hiσ] at e2
        cases e2
        exact ⟨u, r, .inl ⟨hk, by simp⟩⟩
      · rw [List.getElem?_set_ne (Ne.symm hj)] at e2
        obtain ⟨u', r', q⟩ := hl j y v' e1 e2 e3
        refine ⟨u', r', ?_⟩
        rcases q with ⟨k, e⟩ | ⟨k, c, e, z⟩
        · refine .inl ⟨k, ?_⟩
          have : y ≠ x := fun e => hj (nodup_ix hN e1 (e ▸ hi))
          simp [this, e]
        · exact .inr ⟨k, c, e, z.sameBut hs (cne y c e)⟩
    · obtain ⟨w', z⟩ := I.cell y c e
      exact ⟨w', z.sameBut hs (cne y c e)⟩
    · obtain ⟨e, n, ne, nf, d⟩ := I.pin p hp
      exact ⟨(hs.2 p.1 ne).trans e, n, ne, nf, d⟩
  · have hfn : X.fn x = true := by
      rcases hf with z | z
      · exact z
      · rw [z] at hk; cases hk
    obtain ⟨c, hc⟩ := I.ok.has x (.inl hk)
    obtain ⟨w', z⟩ := I.cell x c hc
    refine wpAny_storeName_cell I.ok.kind hk hc z (fun h' hc' hs => ?_)
    obtain ⟨oc, hoc, hocd⟩ := id z
    refine h { s with heap := h' } ⟨I.ok, I.os, I.bare, ⟨fun b o e n hb hx => ?_, fun b o e n hb hx => ?_, I.base.free, fun b o e hx => ?_, I.base.tups, I.base.frzs, I.base.tbls⟩, ⟨m, hn.sameBut hs (Ne.symm (cne x c hc)), fun j y v' e1 e2 e3 => ?_⟩, fun y c' e => ?_, I.free, I.freeC, fun p hp => ?_, tracked ⟨oc, hoc, I.freeC x c hc⟩ hs, by simpa using I.len⟩ ⟨c, hs, .inr hc⟩
    · exact (hs.2 b (Nat.ne_of_lt (Nat.lt_of_lt_of_le (Heap.lt_size e) (I.ok.cab x c hfn hc)))).trans (I.base.keep b o e n hb hx)
    · obtain ⟨sl, e1⟩ := I.base.slot b o e n hb hx
      exact ⟨sl, (hs.2 b (Nat.ne_of_lt (Nat.lt_of_lt_of_le (Heap.lt_size e) (I.ok.cab x c hfn hc)))).trans e1⟩
    · obtain ⟨o', e1⟩ := I.base.there b o e hx
      exact ⟨o', (hs.2 b (Nat.ne_of_lt (Nat.lt_of_lt_of_le (Heap.lt_size e) (I.ok.cab x c hfn hc)))).trans e1⟩
    · by_cases hj : j = i
      · subst hj
        rw [hi] at e1; cases e1
        rw [List.getElem?_set_self hiσ] at e2
        cases e2
        exact ⟨u, r, .inr ⟨.inl hk, c, hc, hc'⟩⟩
      · rw [List.getElem?_set_ne (Ne.symm hj)] at e2
        obtain ⟨u', r', q⟩ := hl j y v' e1 e2 e3
        refine ⟨u', r', ?_⟩
        rcases q with q | ⟨k, c', e, z'⟩
        · exact .inl q
        · refine .inr ⟨k, c', e, z'.sameBut hs ?_⟩
          rintro rfl
          exact hj (nodup_ix hN e1 (I.ok.inj _ _ _ e hc ▸ hi))
    · by_cases hcc : c' = c
      · subst hcc; exact ⟨_, hc'⟩
      · obtain ⟨w2, z2⟩ := I.cell y c' e
        exact ⟨w2, z2.sameBut hs hcc⟩
    · obtain ⟨e, n, ne, nf, d⟩ := I.pin p hp
      refine ⟨(hs.2 p.1 ?_).trans e, n, ne, nf, d⟩
      intro q
      rw [q, hoc] at e
      have q' : oc = p.2 := Option.some.inj e
      exact d w' (by rw [← q']; exact hocd)
theorem store_ok {M : Model} {A : Around} {E : Value → Shared → Prop} {i : Nat} {x : Str} {v : V} {u : Value} {Q : Unit → Shared → Prop} (I : Inv X pins σ H s) (hN : X.N.Nodup) (hi : X.N[i]? = some x) (hx : Loc X.env.scope x) (r : RelV v u)
    (h : ∀ s', Inv X pins (σ.set i (some v)) H s' → Q () s') (hf : X.fn x = true ∨ X.env.scope.names.lookup x = some .local := by first | exact .inl rfl | exact .inr rfl | assumption) : wpAny M A (storeName X.env x u) Q E s :=
  store_ok2 I hN hi hx r (fun s' I' _ => h s' I') hf
/-- behind a call or a block, the state as it is -/
theorem Inv.call' {s' : Shared} {ch : List Addr} (I : Inv X pins σ H s) (ho : s'.os = s.os) (u : Un (frs X.stack) ch H H' s.heap s'.heap) (hok : HOk X.prog X.w H' s'.heap) (hg : AllBare s'.gens)
    (hch : ∀ b ∈ ch, (b ∈ X.ex ∨ X.s_0.heap.objs.size ≤ b) ∧ b ≠ X.env.locals ∧ (∀ x c, X.env.cells.lookup x = some c → c ≠ b) ∧ ∀ p ∈ X.pn ++ pins, p.1 ≠ b) : Inv X pins σ H' s' := by
  obtain ⟨h', g', d', t', o'⟩ := s'
  have e : o' = s.os := ho
  subst e
  exact I.call (g' := g') (t' := t') (d' := d') u hok hg hch
end

/-! ### the judgements -/
/-- an exception: its class, its own dict's address (where it has one), the abstract heap behind it -/
abbrev XK := Value → Option Addr → Hp → Prop
abbrev St := List (Option V)
abbrev VK := V → Hp → Prop
/-- an expression's reading; a test's; an argument list's -/
abbrev TE := St → Hp → VK → Prop
abbrev TT := St → Hp → (Bool → Hp → Prop) → Prop
abbrev TA := St → Hp → (List V → Hp → Prop) → Prop
/-- what is wanted behind a statement -/
structure Ends where
  nx : St → Hp → Prop
  rt : VK
  bk : St → Hp → Prop := fun _ _ => False
  ct : St → Hp → Prop := fun _ _ => False
abbrev TS := Ends → St → Hp → Prop

def EP (X : Cx) (pins : List (Addr × Obj)) (σ : St) (Q : VK) (u : Value) (s' : Shared) : Prop := ∃ v H', Inv X pins σ H' s' ∧ RelV v u ∧ Q v H'
def TP (X : Cx) (pins : List (Addr × Obj)) (σ : St) (Q : Bool → Hp → Prop) (b : Bool) (s' : Shared) : Prop := ∃ H', Inv X pins σ H' s' ∧ Q b H'
def AP (X : Cx) (pins : List (Addr × Obj)) (σ : St) (Q : List V → Hp → Prop) (us : List Value) (s' : Shared) : Prop := ∃ vs H', Inv X pins σ H' s' ∧ Vals vs us ∧ Q vs H'
def SP (X : Cx) (pins : List (Addr × Obj)) (D : Ends) (f : Flow) (s' : Shared) : Prop :=
  match f with
  | .next => ∃ σ' H', Inv X pins σ' H' s' ∧ D.nx σ' H'
  | .brk => ∃ σ' H', Inv X pins σ' H' s' ∧ D.bk σ' H'
  | .cont => ∃ σ' H', Inv X pins σ' H' s' ∧ D.ct σ' H'
  | .ret u => ∃ v σ' H', Inv X pins σ' H' s' ∧ RelV v u ∧ D.rt v H'

def PE (X : Cx) (e : Expr) (t : TE) : Prop :=
  ∀ (pins : List (Addr × Obj)) (s : Shared) (σ : St) (H : Hp) (Q : VK), Inv X pins σ H s → t σ H Q → wpAny (model X.prog X.w) X.A (eval e X.env) (EP X pins σ Q) X.xe s
def PT (X : Cx) (e : Expr) (t : TT) : Prop :=
  ∀ (pins : List (Addr × Obj)) (s : Shared) (σ : St) (H : Hp) (Q : Bool → Hp → Prop), Inv X pins σ H s → t σ H Q → wpAny (model X.prog X.w) X.A (isTrue e X.env (eval e X.env)) (TP X pins σ Q) X.xe s
/-- a test whatever its 'whole' is (and, or) -/
def PW (X : Cx) (e : Expr) (t : TT) : Prop :=
  ∀ (whole : Sem Value) (pins : List (Addr × Obj)) (s : Shared) (σ : St) (H : Hp) (Q : Bool → Hp → Prop), Inv X pins σ H s → t σ H Q → wpAny (model X.prog X.w) X.A (isTrue e X.env whole) (TP X pins σ Q) X.xe s
theorem PW.pt {X : Cx} {e : Expr} {t : TT} (h : PW X e t) : PT X e t := h _
/-- an argument list (no star), from the left -/
def PA (X : Cx) (es : List Expr) (t : TA) : Prop :=
  ∀ (pos : Pos) (pins : List (Addr × Obj)) (s : Shared) (σ : St) (H : Hp) (Q : List V → Hp → Prop), Inv X pins σ H s → t σ H Q → wpAny (model X.prog X.w) X.A (spliced (backTo pos (starEach es X.env))) (AP X pins σ Q) X.xe s
def PS (X : Cx) (st : Stmt) (t : TS) : Prop :=
  ∀ (pins : List (Addr × Obj)) (s : Shared) (σ : St) (H : Hp) (D : Ends), Inv X pins σ H s → t D σ H → wpAny (model X.prog X.w) X.A (exec st X.env) (SP X pins D) X.xe s
def PSs (X : Cx) (st : List Stmt) (t : TS) : Prop :=
  ∀ (pins : List (Addr × Obj)) (s : Shared) (σ : St) (H : Hp) (D : Ends), Inv X pins σ H s → t D σ H → wpAny (model X.prog X.w) X.A (execs st X.env) (SP X pins D) X.xe s
/-- weaken the end -/
theorem thn {α : Type} {t : Sem α} {Q Q' : α → Shared → Prop} {M : Model} {A : Around} {E : Value → Shared → Prop} {s : Shared} (h : wpAny M A t Q E s) (hQ : ∀ a s, Q a s → Q' a s) : wpAny M A t Q' E s := wpAny_mono h hQ fun _ _ x => x
end L2

namespace L2
open PySem PySem.Spec PyProof.Rows
section
variable {X : Cx}

/-! ### names and constants -/
def tVar (i : Nat) : TE := fun σ H Q => ∃ v, σ[i]? = some (some v) ∧ Q v H
def tC (v : V) : TE := fun _ H Q => Q v H
theorem pe_var {i : Nat} {x : Str} {pos : Pos} (hN : X.N[i]? = some x) (hv : Vis X.env.scope x) (hd : (x == ("__debug__" : Str)) = false := by decide) (hcd : (x == ("__classdict__" : Str)) = false := by decide) : PE X (.Name x pos) (tVar i) := by
  intro pins s σ H Q I h
  obtain ⟨v, e, h⟩ := h
  obtain ⟨m, hn, hl⟩ := I.loc
  obtain ⟨u, r, l⟩ := hl i x v hN e hv
  have fin : EP X pins σ Q u s := ⟨v, H, I, r, h⟩
  rcases l with ⟨hk, hm⟩ | ⟨hk, c, hc, hcell⟩
  · exact wpAny_Name (wpAny_loadName_local I.ok.kind hk hn hm fin) hd
  · rcases hk with hk | hk
    · exact wpAny_Name (wpAny_loadName_cell I.ok.kind hk hc hcell fin) hd
    · exact wpAny_Name (wpAny_loadName_free I.ok.kind hk hc hcell fin hcd) hd
theorem pe_int {i j pos} : PE X (.Constant (.int i) j pos) (tC (.int i)) := fun _ _ _ H _ I h => wpAny_Constant_int ⟨.int i, H, I.tok _, ⟨_, rfl⟩, h⟩
theorem pe_bl {b j pos} : PE X (.Constant (.bool b) j pos) (tC (.bl b)) := fun _ _ _ H _ I h => Constant_bool ⟨.bl b, H, I, rfl, h⟩
theorem pe_non {j pos} : PE X (.Constant .none j pos) (tC .non) := fun _ _ _ H _ I h => Constant_none ⟨.non, H, I, rfl, h⟩
/-- a global name of the def -/
def Gl (X : Cx) (x : Str) : Prop := X.env.kindOf x = some .globalImplicit
theorem ld_glob {E : Value → Shared → Prop} {pins : List (Addr × Obj)} {s : Shared} {σ : St} {H : Hp} {x : Str} {u : Value} {pos : Pos} {Q : Value → Shared → Prop} (I : Inv X pins σ H s) (hg : Gl X x) (hm : X.mg x = some u) (h : Q u s)
    (hd : (x == ("__debug__" : Str)) = false := by decide) : wpAny (model X.prog X.w) X.A (eval (.Name x pos) X.env) Q E s :=
  Calls.Name_function_global I.ok.kind hg (Calls.loadGlobal_global (by rw [I.ok.glob]; exact I.mod.glob.keeps I.bk) hm h) hd
theorem ld_blt {E : Value → Shared → Prop} {pins : List (Addr × Obj)} {s : Shared} {σ : St} {H : Hp} {x : Str} {u : Value} {pos : Pos} {Q : Value → Shared → Prop} (I : Inv X pins σ H s) (hg : Gl X x) (hm : X.mg x = none) (hv : bootBuiltins x = some u) (h : Q u s)
    (hn : x ≠ "__name__" := by decide) (hd : (x == ("__debug__" : Str)) = false := by decide) : wpAny (model X.prog X.w) X.A (eval (.Name x pos) X.env) Q E s := by
  obtain ⟨mb, h1, h2⟩ := I.mod.blt
  exact Calls.Name_function_global I.ok.kind hg (Calls.loadGlobal_builtin (by rw [I.ok.glob]; exact I.mod.glob.keeps I.bk) hm (by rw [I.ok.blt]; exact h1.keeps I.bk) ((h2 x hn).trans hv) h) hd
/-- a module's constant, a class, a function, as a value -/
theorem pe_glob {x : Str} {v : V} {u : Value} {pos : Pos} (hg : Gl X x) (hm : X.mg x = some u) (r : RelV v u) (hd : (x == ("__debug__" : Str)) = false := by decide) : PE X (.Name x pos) (tC v) :=
  fun _ _ _ H _ I h => ld_glob I hg hm ⟨v, H, I, r, h⟩ hd
/-! ### arithmetic -/
/-- two ints -/
def t2I (ta tb : TE) (k : Int → Int → Hp → Prop) : St → Hp → Prop := fun σ H => ta σ H fun x H1 => tb σ H1 fun y H2 => ∃ i j, x = .int i ∧ y = .int j ∧ k i j H2
variable {a b : Expr} {ta tb : TE} {pos : Pos}
/-! ### comparisons -/
def PC (X : Cx) (op : CmpOp) (a b : Expr) (t : TE) : Prop :=
  ∀ (pins : List (Addr × Obj)) (s : Shared) (σ : St) (H : Hp) (Q : VK), Inv X pins σ H s → t σ H Q →
    wpAny (model X.prog X.w) X.A (eval a X.env) (fun v s₁ => wpAny (model X.prog X.w) X.A (eval b X.env) (fun u s₂ => wpAny (model X.prog X.w) X.A (compareOp op v u) (EP X pins σ Q) X.xe s₂) X.xe s₁) X.xe s
theorem nobehind (b : Expr) {op : CmpOp} (h : op ≠ .In) (h2 : op ≠ .NotIn) : behindInMarks op b = false := by
  have e1 : (op == CmpOp.In) = false := by cases op <;> first | rfl | exact absurd rfl h
  have e2 : (op == CmpOp.NotIn) = false := by cases op <;> first | rfl | exact absurd rfl h2
  cases b <;> simp [behindInMarks, e1, e2]
def tCmp (p : Int → Int → Bool) (ta tb : TE) : TE := fun σ H Q => t2I ta tb (fun i j H2 => Q (.bl (p i j)) H2) σ H
abbrev tGt : TE → TE → TE := tCmp fun i j => decide (j < i)
/-- is None -/
def tIsN (ta : TE) : TE := fun σ H Q => ta σ H fun x H1 => Q (.bl (decide (x = .non))) H1
def tNotN (ta : TE) : TE := fun σ H Q => ta σ H fun x H1 => Q (.bl (!decide (x = .non))) H1
theorem RelV.none_iff {x : V} {v : Value} (r : RelV x v) : (v == Value.none) = decide (x = .non) := by
  cases x with
  | non => cases r; rfl
  | bl _ => cases r; rfl
  | int _ => obtain ⟨t, rfl⟩ := r; rfl
  | str _ => obtain ⟨t, rfl⟩ := r; rfl
  | byt _ => obtain ⟨t, rfl⟩ := r; rfl
  | flt _ => obtain ⟨t, rfl⟩ := r; rfl
  | ref _ => cases r; rfl
  | ty _ => cases r; rfl
theorem pc_isN {j pos'} (ha : PE X a ta) : PC X .Is a (.Constant .none j pos') (tIsN ta) := by
  intro pins s σ H Q I h
  refine thn (ha pins s σ H _ I h) fun v s1 ⟨x, H1, I1, r1, q1⟩ => ?_
  exact Constant_none (is_none_gen ⟨.bl _, H1, I1, by rw [r1.none_iff]; rfl, q1⟩)
theorem pc_notN {j pos'} (ha : PE X a ta) : PC X .IsNot a (.Constant .none j pos') (tNotN ta) := by
  intro pins s σ H Q I h
  refine thn (ha pins s σ H _ I h) fun v s1 ⟨x, H1, I1, r1, q1⟩ => ?_
  exact Constant_none (isnot_none_gen ⟨.bl _, H1, I1, by rw [r1.none_iff]; rfl, q1⟩)
/-- a comparison as a value, as a test -/
def tB (t : TE) : TT := fun σ H Q => t σ H fun x H1 => ∃ c, x = .bl c ∧ Q c H1
theorem pt_cmp {op : CmpOp} {t : TE} (h : PC X op a b t) (h1 : behindInMarks op b = false := by first | exact nobehind _ (by decide) (by decide) | rfl) : PT X (.Compare a [op] [b] pos) (tB t) := by
  intro pins s σ H Q I hw
  refine wpAny_isTrue_Compare1 (thn (h pins s σ H _ I hw) fun v s1 h1 => thn h1 fun u s2 h2 => thn h2 fun c s3 ⟨x, H1, I1, r1, q1⟩ => ?_) h1
  obtain ⟨d, rfl, q⟩ := q1
  cases r1
  exact wpAny_truthy_bool ⟨H1, I1, q⟩
/-! ### and, or, not -/
variable {tA tB' : TT} {rest : List Expr}
def tOr (t u : TT) : TT := fun σ H Q => t σ H fun c H1 => if c = true then Q true H1 else u σ H1 Q
def tNot (t : TT) : TT := fun σ H Q => t σ H fun c H1 => Q (!c) H1
theorem pw_or1 (ha : PT X a tA) : PW X (.BoolOp .Or [a] pos) tA := by
  intro wh pins s σ H Q I h
  refine isTrue_or (thn (ha pins s σ H Q I h) fun c s1 e => ?_)
  cases c with
  | false => exact isTrue_or_nil e
  | true => exact e
theorem pw_or (ha : PT X a tA) (hb : PW X (.BoolOp .Or (b :: rest) pos) tB') : PW X (.BoolOp .Or (a :: b :: rest) pos) (tOr tA tB') := by
  intro wh pins s σ H Q I h
  refine isTrue_or (thn (ha pins s σ H _ I h) fun c s1 ⟨H1, I1, q1⟩ => ?_)
  cases c with
  | true => exact ⟨H1, I1, q1⟩
  | false => exact hb wh pins s1 σ H1 Q I1 q1
theorem pt_not (ha : PT X a tA) : PT X (.UnaryOp .Not a pos) (tNot tA) := by
  intro pins s σ H Q I h
  exact isTrue_not (ha pins s σ H (fun c H1 => Q (!c) H1) I h)
/-- a if t else b -/
def tIf (t : TT) (ta tb : TE) : TE := fun σ H Q => t σ H fun c H1 => if c = true then ta σ H1 Q else tb σ H1 Q
theorem pe_ifExp {c : Expr} (hc : PT X c tA) (ha : PE X a ta) (hb : PE X b tb) : PE X (.IfExp c a b pos) (tIf tA ta tb) := by
  intro pins s σ H Q I h
  refine wpAny_IfExp (thn (hc pins s σ H _ I h) fun d s1 ⟨H1, I1, q1⟩ => ?_)
  cases d with
  | true => exact ha pins s1 σ H1 Q I1 q1
  | false => exact hb pins s1 σ H1 Q I1 q1
end
end L2

namespace L2
open PySem PySem.Spec PyProof.Rows

/-! ### a list, a tuple that is read: tracked, frozen, or an object of the module -/
def SqL (K : PySem.W.Frag) (H : Hp) (a : Addr) (xs : List V) : Prop :=
  Rd H a (.lst xs) ∨
    ∃ (o : Obj) (its : Array Value) (n : Nat), K.lookup a = some o ∧ o.cls = .type "list" ∧ o.dict = none ∧ o.data = .seq its n ∧ its.size ≤ sizeLine ∧ Vals xs its.toList
def SqT (K : PySem.W.Frag) (H : Hp) (a : Addr) (xs : List V) : Prop :=
  Rd H a (.tup xs) ∨
    ∃ (o : Obj) (its : Array Value) (n : Nat), K.lookup a = some o ∧ o.cls = .type "tuple" ∧ o.data = .seq its n ∧ its.size ≤ sizeLine ∧ Vals xs its.toList
def absV : Value → Option V
  | .none => some .non
  | .bool b => some (.bl b)
  | .int i _ => some (.int i)
  | .str x _ => some (.str x)
  | .bytes b _ => some (.byt b)
  | .float b _ => some (.flt b)
  | .ref a => some (.ref a)
  | .type n => some (.ty n)
  | _ => none
theorem RelV.abs {x : V} {u : Value} (r : RelV x u) : absV u = some x := by
  cases x with
  | non => cases r; rfl
  | bl _ => cases r; rfl
  | int _ => obtain ⟨t, rfl⟩ := r; rfl
  | str _ => obtain ⟨t, rfl⟩ := r; rfl
  | byt _ => obtain ⟨t, rfl⟩ := r; rfl
  | flt _ => obtain ⟨t, rfl⟩ := r; rfl
  | ref _ => cases r; rfl
  | ty _ => cases r; rfl
theorem RelV.inj {x y : V} {u : Value} (r : RelV x u) (q : RelV y u) : x = y := Option.some.inj (r.abs.symm.trans q.abs)
theorem Vals.inj : ∀ {xs ys : List V} {us : List Value}, Vals xs us → Vals ys us → xs = ys
  | _, _, _, .nil, .nil => rfl
  | _, _, _, .cons r t, .cons r' t' => by rw [r.inj r', Vals.inj t t']
section
variable {X : Cx} {pins : List (Addr × Obj)} {σ : St} {H : Hp} {s : Shared} {a : Addr} {xs ys : List V}
theorem SqL.of {K : PySem.W.Frag} (h : H a = some (.lst xs)) : SqL K H a xs := .inl (.inl h)
theorem SqT.of {K : PySem.W.Frag} (h : H a = some (.tup xs)) : SqT K H a xs := .inl (.inl h)
theorem Inv.list (I : Inv X pins σ H s) (h : SqL X.K H a xs) : ∃ its : List Value, Vals xs its ∧ PlainL s.heap a its.toArray ∧ xs.length ≤ sizeLine := by
  rcases h with h | ⟨o, its, n, hk, hc, hd, hs, hz, r⟩
  · obtain ⟨z, its, n, r, e⟩ := h.ok I.hok
    exact ⟨its, r, ⟨_, n, e, rfl, rfl, rfl⟩, z⟩
  · refine ⟨its.toList, r, ⟨o, n, I.kIn a o hk, hc, hd, by simpa using hs⟩, ?_⟩
    have e := r.length
    simp only [Array.length_toList] at e
    omega
theorem Inv.tuple (I : Inv X pins σ H s) (h : SqT X.K H a xs) : ∃ its : List Value, Vals xs its ∧ IsTup s.heap a its.toArray ∧ xs.length ≤ sizeLine := by
  rcases h with h | ⟨o, its, n, hk, hc, hs, hz, r⟩
  · obtain ⟨z, its, r, p⟩ := h.ok I.hok
    exact ⟨its, r, p, z⟩
  · refine ⟨its.toList, r, ⟨o, I.kIn a o hk, hc, n, by simpa using hs⟩, ?_⟩
    have e := r.length
    simp only [Array.length_toList] at e
    omega
theorem Inv.list_inj (I : Inv X pins σ H s) (h : SqL X.K H a xs) (h' : SqL X.K H a ys) : xs = ys := by
  obtain ⟨its, r, ⟨o, n, e, _, _, d⟩, _⟩ := I.list h
  obtain ⟨its', r', ⟨o', n', e', _, _, d'⟩, _⟩ := I.list h'
  rw [e] at e'; cases e'
  rw [d] at d'
  injection d' with d1 _
  have : its = its' := by simpa using congrArg Array.toList d1
  subst this
  exact r.inj r'
theorem Inv.tuple_inj (I : Inv X pins σ H s) (h : SqT X.K H a xs) (h' : SqT X.K H a ys) : xs = ys := by
  obtain ⟨its, r, ⟨o, e, _, n, d⟩, _⟩ := I.tuple h
  obtain ⟨its', r', ⟨o', e', _, n', d'⟩, _⟩ := I.tuple h'
  rw [e] at e'; cases e'
  rw [d] at d'
  injection d' with d1 _
  have : its = its' := by simpa using congrArg Array.toList d1
  subst this
  exact r.inj r'
end

/-! ### another wish about exceptions -/
abbrev Cx.wish (X : Cx) (E : Value → Shared → Prop) : Cx := { X with xe := E }
/-- no exception leaves -/
abbrev Cx.nox (X : Cx) : Cx := X.wish fun _ _ => False
theorem Cx.Ok.wish {X : Cx} (ok : X.Ok) (E : Value → Shared → Prop) : (X.wish E).Ok :=
  ⟨ok.mod, ok.kind, ok.glob, ok.blt, ok.above, ok.inj, ok.has, ok.cab, ok.hd, ok.frames, ok.stk, ok.exf, ok.bs, ok.bsz, ok.noex, ok.exfs, ok.funs, ok.frf⟩
theorem Cx.Ok.unwish {X : Cx} {E : Value → Shared → Prop} (ok : (X.wish E).Ok) : X.Ok :=
  ⟨ok.mod, ok.kind, ok.glob, ok.blt, ok.above, ok.inj, ok.has, ok.cab, ok.hd, ok.frames, ok.stk, ok.exf, ok.bs, ok.bsz, ok.noex, ok.exfs, ok.funs, ok.frf⟩
section
variable {X : Cx} {pins : List (Addr × Obj)} {σ : St} {H : Hp} {s : Shared} {E : Value → Shared → Prop}
theorem Inv.wish (I : Inv X pins σ H s) (E : Value → Shared → Prop) : Inv (X.wish E) pins σ H s := ⟨I.ok.wish E, I.os, I.bare, I.base, I.loc, I.cell, I.free, I.freeC, I.pin, I.hok, I.len⟩
theorem Inv.unwish (I : Inv (X.wish E) pins σ H s) : Inv X pins σ H s := ⟨I.ok.unwish, I.os, I.bare, I.base, I.loc, I.cell, I.free, I.freeC, I.pin, I.hok, I.len⟩
theorem SP.unwish {D : Ends} {f : Flow} {s' : Shared} (h : SP (X.wish E) pins D f s') : SP X pins D f s' := by
  cases f with
  | next => obtain ⟨σ', H', I, q⟩ := h; exact ⟨σ', H', I.unwish, q⟩
  | brk => obtain ⟨σ', H', I, q⟩ := h; exact ⟨σ', H', I.unwish, q⟩
  | cont => obtain ⟨σ', H', I, q⟩ := h; exact ⟨σ', H', I.unwish, q⟩
  | ret u => obtain ⟨v, σ', H', I, r, q⟩ := h; exact ⟨v, σ', H', I.unwish, r, q⟩
theorem PE.nox {e : Expr} {t : TE} (h : PE X.nox e t) : PE X e t := fun pins s σ H Q I hw =>
  wpAny_mono (h pins s σ H Q (I.wish _) hw) (fun _ _ ⟨v, H', I', r, q⟩ => ⟨v, H', I'.unwish, r, q⟩) fun _ _ z => False.elim z
theorem PT.nox {e : Expr} {t : TT} (h : PT X.nox e t) : PT X e t := fun pins s σ H Q I hw =>
  wpAny_mono (h pins s σ H Q (I.wish _) hw) (fun _ _ ⟨H', I', q⟩ => ⟨H', I'.unwish, q⟩) fun _ _ z => False.elim z
theorem PSs.nox {st : List Stmt} {t : TS} (h : PSs X.nox st t) : PSs X st t := fun pins s σ H D I hw =>
  wpAny_mono (h pins s σ H D (I.wish _) hw) (fun _ _ q => q.unwish) fun _ _ z => False.elim z
end

/-! ### blocks and small statements -/
section
variable {X : Cx} {st : Stmt} {rest : List Stmt} {t u : TS} {e : Expr} {te : TE} {pos : Pos}
def tNext : TS := fun D σ H => D.nx σ H
def tSeq (t u : TS) : TS := fun D σ H => t { D with nx := u D } σ H
theorem pss_nil : PSs X [] tNext := fun _ _ σ H _ I h => wpAny_execs_nil ⟨σ, H, I, h⟩
theorem pss_cons (h1 : PS X st t) (h2 : PSs X rest u) : PSs X (st :: rest) (tSeq t u) := by
  intro pins s σ H D I h
  refine wpAny_execs_cons (thn (h1 pins s σ H { D with nx := u D } I h) fun f s1 q => ?_)
  cases f with
  | next =>
    obtain ⟨σ', H', I', q⟩ := q
    exact h2 pins s1 σ' H' D I' q
  | ret v => exact q
  | brk => exact q
  | cont => exact q
theorem pss_one (h1 : PS X st t) : PSs X [st] t := by
  intro pins s σ H D I h
  refine wpAny_execs_cons (thn (h1 pins s σ H D I h) fun f s1 q => ?_)
  cases f with
  | next => exact wpAny_execs_nil q
  | ret v => exact q
  | brk => exact q
  | cont => exact q
def tBreak : TS := fun D σ H => D.bk σ H
theorem ps_break : PS X (.Break pos) tBreak := fun _ _ σ H _ I h => wpAny_Break ⟨σ, H, I, h⟩
/-- in a def's body nothing is shown -/
theorem Inv.quiet {pins : List (Addr × Obj)} {σ : St} {H : Hp} {s : Shared} (I : Inv X pins σ H s) : interactive X.env = false := by simp [interactive, I.ok.kind]
/-- an expression whose value is dropped -/
def tDrop (te : TE) : TS := fun D σ H => te σ H fun _ H1 => D.nx σ H1
theorem ps_expr (he : PE X e te) (hs : swapsWith e none pos.line X.env = pure false := by rfl) : PS X (.Expr e pos) (tDrop te) := by
  intro pins s σ H D I h
  exact wpAny_Expr_any (thn (he pins s σ H _ I h) fun v s1 ⟨x, H1, I1, r1, q1⟩ => ⟨σ, H1, I1, q1⟩) I.quiet hs
def tRet (te : TE) : TS := fun D σ H => te σ H D.rt
theorem ps_ret (he : PE X e te) : PS X (.Return (some e) pos) (tRet te) := by
  intro pins s σ H D I h
  exact wpAny_Return_some (thn (he pins s σ H _ I h) fun v s1 ⟨x, H1, I1, r1, q1⟩ => ⟨x, σ, H1, I1, r1, q1⟩)
def tIfS (c : TT) (t u : TS) : TS := fun D σ H => c σ H fun b H1 => if b = true then t D σ H1 else u D σ H1
theorem ps_if {c : Expr} {a b : List Stmt} {tc : TT} (hc : PT X c tc) (ha : PSs X a t) (hb : PSs X b u) : PS X (.If c a b pos) (tIfS tc t u) := by
  intro pins s σ H D I h
  refine wpAny_If (thn (hc pins s σ H _ I h) fun d s1 ⟨H1, I1, q1⟩ => ?_)
  cases d with
  | true => exact ha pins s1 σ H1 D I1 q1
  | false => exact hb pins s1 σ H1 D I1 q1
end

/-! ### targets -/
abbrev TG := V → St → Hp → (St → Hp → Prop) → Prop
abbrev TGs := List V → St → Hp → (St → Hp → Prop) → Prop
def PG (X : Cx) (target : Expr) (t : TG) : Prop :=
  ∀ (pins : List (Addr × Obj)) (s : Shared) (σ : St) (H : Hp) (v : V) (u : Value) (Q : St → Hp → Prop), Inv X pins σ H s → RelV v u → t v σ H Q →
    wpAny (model X.prog X.w) X.A (assign target X.env u) (fun _ s' => ∃ σ' H', Inv X pins σ' H' s' ∧ Q σ' H') X.xe s
/-- several targets, one after another -/
def PGs (X : Cx) (ts : List Expr) (t : TGs) : Prop :=
  ∀ (pins : List (Addr × Obj)) (s : Shared) (σ : St) (H : Hp) (vs : List V) (us : List Value) (Q : St → Hp → Prop), Inv X pins σ H s → Vals vs us → t vs σ H Q →
    wpAny (model X.prog X.w) X.A (assignInOrder ((assignEach ts X.env).map (·.2)) us) (fun _ s' => ∃ σ' H', Inv X pins σ' H' s' ∧ Q σ' H') X.xe s
/-- o[i] = v, by values -/
abbrev TSet := V → V → V → Hp → (Hp → Prop) → Prop
def PSet (X : Cx) (t : TSet) : Prop :=
  ∀ (pins : List (Addr × Obj)) (s : Shared) (σ : St) (H : Hp) (o i v : V) (ov iv u : Value) (Q : Hp → Prop), Inv X pins σ H s → RelV o ov → RelV i iv → RelV v u → t o i v H Q →
    wpAny (model X.prog X.w) X.A (setItem ov iv u) (fun _ s' => ∃ H', Inv X pins σ H' s' ∧ Q H') X.xe s
/-- a op= b, by values -/
abbrev TIp := V → V → Hp → VK → Prop
def PIp (X : Cx) (op : Operator) (t : TIp) : Prop :=
  ∀ (pins : List (Addr × Obj)) (s : Shared) (σ : St) (H : Hp) (x y : V) (v u : Value) (Q : VK), Inv X pins σ H s → RelV x v → RelV y u → t x y H Q →
    wpAny (model X.prog X.w) X.A (inplaceOp op v u) (EP X pins σ Q) X.xe s
section
variable {X : Cx} {pos : Pos}
def gName (i : Nat) : TG := fun v σ H Q => Q (σ.set i (some v)) H
theorem pg_name {i : Nat} {x : Str} (hN : X.N.Nodup) (hi : X.N[i]? = some x) (hx : Loc X.env.scope x) (hf : X.fn x = true ∨ X.env.scope.names.lookup x = some .local := by first | exact .inl rfl | exact .inr rfl | assumption) : PG X (.Name x pos) (gName i) := by
  intro pins s σ H v u Q I r h
  exact wpAny_assign_Name (store_ok I hN hi hx r (fun s' I' => ⟨_, H, I', h⟩) hf)
def gNil : TGs := fun vs σ H Q => vs = [] ∧ Q σ H
def gCons (t : TG) (u : TGs) : TGs := fun vs σ H Q => ∃ v r, vs = v :: r ∧ t v σ H fun σ' H' => u r σ' H' Q
theorem pgs_nil : PGs X [] gNil := by
  intro pins s σ H vs us Q I r h
  obtain ⟨e, h⟩ := h
  subst e
  cases r
  exact assignInOrder_nil ⟨σ, H, I, h⟩
theorem pgs_cons {e : Expr} {es : List Expr} {t : TG} {u : TGs} (h1 : PG X e t) (h2 : PGs X es u)
    (hs : (assignEach (e :: es) X.env).map (·.2) = assign e X.env :: (assignEach es X.env).map (·.2) := by rfl) : PGs X (e :: es) (gCons t u) := by
  intro pins s σ H vs us Q I r h
  obtain ⟨v, vr, e1, h⟩ := h
  subst e1
  cases r with
  | cons r rr =>
    rw [hs]
    refine assignInOrder_cons (thn (h1 pins s σ H _ _ _ I r h) fun _ s1 ⟨σ1, H1, I1, q1⟩ => ?_)
    exact h2 pins s1 σ1 H1 _ _ Q I1 rr q1
/-- (a, b, ..) = a tuple of that length -/
def gTup (K : PySem.W.Frag) (n : Nat) (t : TGs) : TG := fun v σ H Q => ∃ a xs, v = .ref a ∧ SqT K H a xs ∧ xs.length = n ∧ t xs σ H Q
theorem pg_tup {es : List Expr} {k : Nat} {t : TGs} {n : Nat} (hc : X.calm = true) (h : PGs X es t)
    (hn : (assignEach es X.env).length = n := by rfl) (hst : (assignEach es X.env).findIdx? (·.1) = none := by rfl) : PG X (.Tuple es k pos) (gTup X.K n t) := by
  intro pins s σ H v u Q I r hw
  obtain ⟨a, xs, e1, hq, hl, hw⟩ := hw
  subst e1
  cases r
  obtain ⟨its, rv, ht, hz⟩ := I.tuple hq
  refine assign_Tuple_tuple (I.ok.hd hc) ht (by simp [hn, ← hl, rv.length]) hst fun h' hx => ?_
  have I1 : Inv X pins σ H { s with heap := h' } := I.kept (t' := s.toks) fun b o e => hx b o (Nat.ne_of_lt (Heap.lt_size e)) e
  exact h pins _ σ H xs _ Q I1 (by simpa using rv) hw
/-- o[i] = .. -/
def gSub (to ti : TE) (t : TSet) : TG := fun v σ H Q => to σ H fun o H1 => ti σ H1 fun i H2 => t o i v H2 fun H3 => Q σ H3
theorem pg_sub {o i : Expr} {to ti : TE} {t : TSet} (ho : PE X o to) (hi : PE X i ti) (hs : PSet X t)
    (ha : ∀ v, assign (.Subscript o i pos) X.env v = (do
      let ov ← holding [v] (eval o X.env)
      let iv ← holding [v, ov] (eval i X.env)
      standAt pos
      holding [v, ov, iv] (setItem ov iv v)
      release [v, ov, iv] []) := by intro _; rfl) : PG X (.Subscript o i pos) (gSub to ti t) := by
  intro pins s σ H v u Q I r h
  rw [ha]
  refine wpAny_bind (wpAny_holding (thn (ho pins s σ H _ I h) fun ov s1 ⟨x, H1, I1, r1, q1⟩ => ?_))
  refine wpAny_bind (wpAny_holding (thn (hi pins s1 σ H1 _ I1 q1) fun iv s2 ⟨y, H2, I2, r2, q2⟩ => ?_))
  refine wpAny_bind (wpAny_standAt (wpAny_bind (wpAny_holding (thn (hs pins s2 σ H2 x y v ov iv u _ I2 r1 r2 r q2) fun _ s3 ⟨H3, I3, q3⟩ => ?_))))
  exact wpAny_release ⟨σ, H3, I3, q3⟩
/-- target = value -/
def tAsg (te : TE) (g : TG) : TS := fun D σ H => te σ H fun x H1 => g x σ H1 D.nx
theorem ps_asg {tg e : Expr} {te : TE} {g : TG} (he : PE X e te) (hg : PG X tg g) (hs : swapsWithSole [tg] e pos.line X.env = pure false := by rfl) (hw : swappedStores [tg] e X.env = pure none := by rfl)
    (h1 : (assignEach [tg] X.env).map (·.2) = [assign tg X.env] := by rfl) : PS X (.Assign [tg] e pos) (tAsg te g) := by
  intro pins s σ H D I h
  refine wpAny_Assign_stores (thn (he pins s σ H _ I h) fun v s1 ⟨x, H1, I1, r1, q1⟩ => ?_) hs hw
  rw [h1]
  exact thn (hg pins s1 σ H1 x v _ I1 r1 q1) fun _ s2 q => q
/-- name = value -/
theorem ps_set {i : Nat} {x : Str} {e : Expr} {te : TE} {pos' : Pos} (hN : X.N.Nodup) (hi : X.N[i]? = some x) (hx : Loc X.env.scope x) (he : PE X e te) (hs : swapsWith e (some (.Name x pos')) pos.line X.env = pure false := by rfl) (hf : X.fn x = true ∨ X.env.scope.names.lookup x = some .local := by first | exact .inl rfl | exact .inr rfl | assumption) :
    PS X (.Assign [.Name x pos'] e pos) (tAsg te (gName i)) := by
  intro pins s σ H D I h
  refine wpAny_Assign_Name (thn (he pins s σ H _ I h) fun v s1 ⟨y, H1, I1, r1, q1⟩ => ?_) hs
  exact store_ok I1 hN hi hx r1 (fun s2 I2 => ⟨_, H1, I2, q1⟩) hf
/-- name op= e -/
def tAug (i : Nat) (te : TE) (ti : TIp) : TS := fun D σ H => ∃ x, σ[i]? = some (some x) ∧ te σ H fun y H1 => ti x y H1 fun z H2 => D.nx (σ.set i (some z)) H2
theorem ps_aug {i : Nat} {x : Str} {e : Expr} {te : TE} {op : Operator} {ti : TIp} {pos' : Pos} (hN : X.N.Nodup) (hi : X.N[i]? = some x) (hx : Loc X.env.scope x) (he : PE X e te) (ho : PIp X op ti) (hf : X.fn x = true ∨ X.env.scope.names.lookup x = some .local := by first | exact .inl rfl | exact .inr rfl | assumption) :
    PS X (.AugAssign (.Name x pos') op e pos) (tAug i te ti) := by
  intro pins s σ H D I h
  obtain ⟨v, e1, h⟩ := h
  obtain ⟨m, hn, hl⟩ := I.loc
  have vis : Vis X.env.scope x := by rcases hx with k | k; exact .inl k; exact .inr (.inl k)
  obtain ⟨u, r, l⟩ := hl i x v hi e1 vis
  refine wpAny_AugAssign_Name ?_
  have go : wpAny (model X.prog X.w) X.A (eval e X.env) (fun w s₂ => wpAny (model X.prog X.w) X.A (inplaceOp op u w) (fun r s₃ => wpAny (model X.prog X.w) X.A (storeName X.env x r) (fun _ => SP X pins D .next) X.xe s₃) X.xe s₂) X.xe s := by
    refine thn (he pins s σ H _ I h) fun w s1 ⟨y, H1, I1, r1, q1⟩ => ?_
    refine thn (ho pins s1 σ H1 v y u w _ I1 r r1 q1) fun z s2 ⟨zv, H2, I2, r2, q2⟩ => ?_
    exact store_ok I2 hN hi hx r2 (fun s3 I3 => ⟨_, H2, I3, q2⟩) hf
  rcases l with ⟨hk, hm⟩ | ⟨hk, c, hc, hcell⟩
  · exact wpAny_loadName_local I.ok.kind hk hn hm go
  · rcases hk with hk | hk
    · exact wpAny_loadName_cell I.ok.kind hk hc hcell go
    · rcases hx with k | k
      · have : X.env.scope.names.lookup x = some .free := hk
        rw [k] at this; cases this
      · have : X.env.scope.names.lookup x = some .free := hk
        rw [k] at this; cases this
/-- ints -/
def ipI (f : Int → Int → Int) : TIp := fun x y H Q => ∃ i j, x = .int i ∧ y = .int j ∧ Q (.int (f i j)) H
theorem ip_add : PIp X .Add (ipI fun i j => i + j) := by
  intro pins s σ H x y v u Q I r1 r2 h
  obtain ⟨i, j, e1, e2, q⟩ := h
  subst e1; subst e2
  obtain ⟨t, rfl⟩ := r1
  obtain ⟨t', rfl⟩ := r2
  exact iadd_int ⟨.int _, H, I.tok _, ⟨_, rfl⟩, q⟩
theorem ip_sub : PIp X .Sub (ipI fun i j => i - j) := by
  intro pins s σ H x y v u Q I r1 r2 h
  obtain ⟨i, j, e1, e2, q⟩ := h
  subst e1; subst e2
  obtain ⟨t, rfl⟩ := r1
  obtain ⟨t', rfl⟩ := r2
  exact isub_int ⟨.int _, H, I.tok _, ⟨_, rfl⟩, q⟩
end

/-! ### while -/
section
variable {X : Cx} {pos : Pos}
/-- the invariant W with its measure -/
def tWhile (c : TT) (tb : TS) : TS := fun D σ H => ∃ W : Nat → St → Hp → Prop, (∃ m, W m σ H) ∧ ∀ m σ H, W m σ H →
  c σ H fun b H1 => if b = true then ∃ N : St → Hp → Prop, (∀ σ' H', N σ' H' → ∃ m', m' < m ∧ W m' σ' H') ∧ tb { D with nx := N, ct := N, bk := D.nx } σ H1 else D.nx σ H1
theorem ps_while {c : Expr} {body : List Stmt} {tc : TT} {tb : TS} (hp : PassesOwn (model X.prog X.w) X.A X.env X.xe) (hc : PT X c tc) (hb : PSs X body tb) : PS X (.While c body [] pos) (tWhile tc tb) := by
  intro pins s σ H D I h
  obtain ⟨W, ⟨m0, w0⟩, turn⟩ := h
  refine wpAny_While (codeAny_whileLoop (fun n s' => ∃ σ' H', Inv X pins σ' H' s' ∧ W n σ' H') ?_ m0 ⟨σ, H, I, w0⟩)
  rintro n s1 ⟨σ1, H1, I1, w1⟩
  refine wpAny_passesOwn hp (thn (hc pins s1 σ1 H1 _ I1 (turn n σ1 H1 w1)) fun b s2 ⟨H2, I2, q2⟩ => ?_)
  cases b with
  | true =>
    obtain ⟨N, hN, q2⟩ := q2
    rw [if_pos rfl]
    refine wpAny_passesOwn hp (thn (hb pins s2 σ1 H2 _ I2 q2) fun f s3 q3 => ?_)
    cases f with
    | next =>
      obtain ⟨σ3, H3, I3, n3⟩ := q3
      obtain ⟨m', hm, w3⟩ := hN σ3 H3 n3
      exact ⟨m', hm, σ3, H3, I3, w3⟩
    | cont =>
      obtain ⟨σ3, H3, I3, n3⟩ := q3
      obtain ⟨m', hm, w3⟩ := hN σ3 H3 n3
      exact ⟨m', hm, σ3, H3, I3, w3⟩
    | brk => exact q3
    | ret v => exact q3
  | false =>
    rw [if_neg Bool.false_ne_true]
    exact wpAny_execs_nil ⟨σ1, H2, I2, q2⟩
end

/-! ### what a loop or a comprehension walks -/
/-- at turn i: it yields x (the heap may grow), or it stops -/
structure It where
  go : Nat → Hp → Prop
  yld : Nat → Hp → V → Hp → Prop
  stop : Nat → Hp → Prop
/-- the iterator's own objects may turn: they are not the frame's, not pinned, younger than the entry (or a comprehension's own) -/
def FpOk (X : Cx) (pins : List (Addr × Obj)) (H : Hp) (b : Addr) : Prop :=
  H b = none ∧ b ≠ X.env.locals ∧ b ∉ X.fs ∧ (b ∈ X.ex ∨ X.s_0.heap.objs.size ≤ b) ∧ (∀ x c, X.env.cells.lookup x = some c → c ≠ b) ∧ ∀ p ∈ X.pn ++ pins, p.1 ≠ b
theorem Inv.fpOk {X : Cx} {pins : List (Addr × Obj)} {σ : St} {H H' : Hp} {s : Shared} {b : Addr} (I : Inv X pins σ H s) (hb : s.heap.objs.size ≤ b) (hn : H' b = none) : FpOk X pins H' b := by
  refine ⟨hn, Nat.ne_of_gt (Nat.lt_of_lt_of_le I.lt hb), I.nofs hb, .inr (Nat.le_trans I.sz hb), fun x c e z => ?_, fun p hp z => ?_⟩
  · obtain ⟨v, q⟩ := I.cell x c e
    exact absurd (Nat.lt_of_lt_of_le q.lt (by rw [z]; exact hb)) (Nat.lt_irrefl _)
  · exact absurd (Nat.lt_of_lt_of_le (Heap.lt_size (I.pin p hp).1) (by rw [z]; exact hb)) (Nat.lt_irrefl _)
structure Turn (P : Program) (w : World) (K : PySem.W.Frag) (tg : Expr) (J : It) (fp : List Addr) (it : Addr) (tn : Nat → Heap → Prop) : Prop where
  mem : it ∈ fp
  obj : ∀ i h, tn i h → ∀ b ∈ fp, ∃ o, h.get? b = some o ∧ ∀ v, o.data ≠ .cell v
  keep : ∀ i h h', tn i h → (∀ b ∈ fp, ∀ o, h.get? b = some o → h'.get? b = some o) → tn i h'
  item : ∀ (X : Cx), X.prog = P → X.w = w → X.K = K → X.calm = true → ∀ (i : Nat) (pins : List (Addr × Obj)) (s : Shared) (σ : St) (H : Hp) (E : Value → Shared → Prop), Inv X pins σ H s → (∀ b ∈ fp, FpOk X pins H b) → tn i s.heap → J.go i H →
    wpAny (model P w) X.A (pyNext (.ref it)) (fun r s1 => ∃ u, r = some u ∧
      wpAny (model P w) X.A (letOwnedTupleGo tg (.ref it) u) (fun _ s2 => ∃ x H', Inv X pins σ H' s2 ∧ RelV x u ∧ J.yld i H x H' ∧ tn (i + 1) s2.heap ∧ ∀ b ∈ fp, H' b = none) E s1) E s
  done : ∀ (X : Cx), X.prog = P → X.w = w → X.K = K → X.calm = true → ∀ (i : Nat) (pins : List (Addr × Obj)) (s : Shared) (σ : St) (H : Hp) (E : Value → Shared → Prop), Inv X pins σ H s → (∀ b ∈ fp, FpOk X pins H b) → tn i s.heap → J.stop i H →
    wpAny (model P w) X.A (pyNext (.ref it)) (fun r s1 => r = none ∧ Inv X pins σ H s1) E s
  self : ∀ (A : Around) (i : Nat) (s : Shared) (Q : Value → Shared → Prop) (E : Value → Shared → Prop), tn i s.heap → Q (.ref it) s → wpAny (model P w) A (pyIter (.ref it)) Q E s
abbrev TI := St → Hp → (It → Hp → Prop) → Prop
/-- an iterator has come -/
def PIE (X : Cx) (pins : List (Addr × Obj)) (σ : St) (tg : Expr) (R : It → Hp → Prop) (itv : Value) (s2 : Shared) : Prop :=
  ∃ (it : Addr) (fp : List Addr) (tn : Nat → Heap → Prop) (J : It) (H' : Hp), itv = .ref it ∧ Inv X pins σ H' s2 ∧ Turn X.prog X.w X.K tg J fp it tn ∧ tn 0 s2.heap ∧ (∀ b ∈ fp, FpOk X pins H' b) ∧ R J H'
def PI (X : Cx) (tg iter : Expr) (wi : TI) : Prop :=
  ∀ (pins : List (Addr × Obj)) (s : Shared) (σ : St) (H : Hp) (R : It → Hp → Prop), Inv X pins σ H s → wi σ H R →
    wpAny (model X.prog X.w) X.A (eval iter X.env) (fun v s1 => wpAny (model X.prog X.w) X.A (pyIter v) (PIE X pins σ tg R) X.xe s1) X.xe s

/-- the step ahead of the store is nothing for an iterator that keeps no tuple -/
theorem go_of {M : Model} {A : Around} {E : Value → Shared → Prop} {s : Shared} {tg : Expr} {it : Addr} {u : Value} {o : Obj} {n : String} {vs : Array Value} {Q : Unit → Shared → Prop} (ho : s.heap.get? it = some o) (hc : o.cls = .type n) (hd : o.data = .fields vs)
    (hn : ["enumerate", "zip", "dict_itemiterator", "dict_reverseitemiterator", "odict_iterator", "itertools.zip_longest", "itertools.pairwise"].contains n = false) (hQ : Q () s) : wpAny M A (letOwnedTupleGo tg (.ref it) u) Q E s := by
  unfold letOwnedTupleGo
  cases tg <;> first
    | exact wpAny_pure hQ
    | (cases u <;> first
        | exact wpAny_pure hQ
        | (refine wpAny_bind (wpAny_load ho ?_)
           rw [hc, hd]
           show wpAny M A (if (["enumerate", "zip", "dict_itemiterator", "dict_reverseitemiterator", "odict_iterator", "itertools.zip_longest", "itertools.pairwise"].contains n && vs[0]? == some (rawInt _)) = true then _ else _) Q E s
           rw [if_neg (by intro h; rw [hn, Bool.false_and] at h; cases h)]
           exact wpAny_pure hQ))

/-- the list at a, as it stands at each turn (a loop may append to it) -/
def Itl (K : PySem.W.Frag) (a : Addr) : It :=
  ⟨fun i H => ∃ xs x, SqL K H a xs ∧ xs[i]? = some x, fun i H x H' => H' = H ∧ ∀ xs, SqL K H a xs → xs[i]? = some x, fun i H => ∃ xs, SqL K H a xs ∧ xs.length ≤ i⟩
def Itt (K : PySem.W.Frag) (a : Addr) : It :=
  ⟨fun i H => ∃ xs x, SqT K H a xs ∧ xs[i]? = some x, fun i H x H' => H' = H ∧ ∀ xs, SqT K H a xs → xs[i]? = some x, fun i H => ∃ xs, SqT K H a xs ∧ xs.length ≤ i⟩
/-- lo, lo + 1, .. (n of them) -/
def Itr (lo : Int) (n : Nat) : It := ⟨fun i _ => i < n, fun i H x H' => H' = H ∧ x = .int (lo + i), fun i _ => n ≤ i⟩
theorem turn_list {P : Program} {w : World} {K : PySem.W.Frag} {tg : Expr} (a it : Addr) : Turn P w K tg (Itl K a) [it] it (fun i h => h.IsListIter it a i) where
  mem := by simp
  obj := fun i h st b hb => by
    have e : b = it := by simpa using hb
    subst e
    obtain ⟨o, e, c, d⟩ := st
    exact ⟨o, e, fun v z => by rw [d] at z; cases z⟩
  keep := fun i h h' st k => st.at fun o e => k it (by simp) o e
  item := by
    intro X hP hw hK hc i pins s σ H E I hf st hg
    subst hP hw hK
    obtain ⟨xs, x, hq, hx⟩ := hg
    obtain ⟨its, rv, p, hz⟩ := I.list hq
    obtain ⟨u, hu, ru⟩ := rv.get hx
    obtain ⟨f0, f1, f2, f3, f4, f5⟩ := hf it (by simp)
    refine wpAny_pyNext_list_item st p.isList (x := u) (by simpa using hu) fun h' st' sb => ?_
    have I1 : Inv X pins σ H { s with heap := h' } := I.turned (t' := s.toks) (fun b o hb e => (sb.2 b hb).trans e) f0 f1 f3 f4 f5
    obtain ⟨o, e, c, d⟩ := id st'
    exact ⟨u, rfl, go_of (s := { s with heap := h' }) e c d (by decide) ⟨x, H, I1, ru, ⟨rfl, fun ys hy => by rw [I.list_inj hy hq]; exact hx⟩, st', fun b hb => (hf b hb).1⟩⟩
  done := by
    intro X hP hw hK hc i pins s σ H E I hf st hg
    subst hP hw hK
    obtain ⟨xs, hq, hx⟩ := hg
    obtain ⟨its, rv, p, hz⟩ := I.list hq
    obtain ⟨f0, f1, f2, f3, f4, f5⟩ := hf it (by simp)
    have hl := rv.length
    exact wpAny_pyNext_list_end (I.ok.hd hc) st p.isList (by simp; omega) fun h' eb => ⟨rfl, I.turned (t' := s.toks) (fun b o hb e => eb b o hb e) f0 f1 f3 f4 f5⟩
  self := fun _ _ _ _ _ st h => wpAny_pyIter_listiter st h
theorem turn_tuple {P : Program} {w : World} {K : PySem.W.Frag} {tg : Expr} (a it : Addr) : Turn P w K tg (Itt K a) [it] it (fun i h => h.IsTupleIter it a i) where
  mem := by simp
  obj := fun i h st b hb => by
    have e : b = it := by simpa using hb
    subst e
    obtain ⟨o, e, c, d⟩ := st
    exact ⟨o, e, fun v z => by rw [d] at z; cases z⟩
  keep := fun i h h' st k => st.at fun o e => k it (by simp) o e
  item := by
    intro X hP hw hK hc i pins s σ H E I hf st hg
    subst hP hw hK
    obtain ⟨xs, x, hq, hx⟩ := hg
    obtain ⟨its, rv, p, hz⟩ := I.tuple hq
    obtain ⟨u, hu, ru⟩ := rv.get hx
    obtain ⟨f0, f1, f2, f3, f4, f5⟩ := hf it (by simp)
    refine wpAny_pyNext_tuple_item st (show s.heap.IsTuple a its.toArray from p) (x := u) (by simpa using hu) fun h' st' sb => ?_
    have I1 : Inv X pins σ H { s with heap := h' } := I.turned (t' := s.toks) (fun b o hb e => (sb.2 b hb).trans e) f0 f1 f3 f4 f5
    obtain ⟨o, e, c, d⟩ := id st'
    exact ⟨u, rfl, go_of (s := { s with heap := h' }) e c d (by decide) ⟨x, H, I1, ru, ⟨rfl, fun ys hy => by rw [I.tuple_inj hy hq]; exact hx⟩, st', fun b hb => (hf b hb).1⟩⟩
  done := by
    intro X hP hw hK hc i pins s σ H E I hf st hg
    subst hP hw hK
    obtain ⟨xs, hq, hx⟩ := hg
    obtain ⟨its, rv, p, hz⟩ := I.tuple hq
    obtain ⟨f0, f1, f2, f3, f4, f5⟩ := hf it (by simp)
    have hl := rv.length
    exact wpAny_pyNext_tuple_end (I.ok.hd hc) st (show s.heap.IsTuple a its.toArray from p) (by simp; omega) fun h' eb => ⟨rfl, I.turned (t' := s.toks) (fun b o hb e => eb b o hb e) f0 f1 f3 f4 f5⟩
  self := fun _ _ _ _ _ st h => wpAny_pyIter_tupleiter st h
theorem turn_range {P : Program} {w : World} {K : PySem.W.Frag} {tg : Expr} (it : Addr) (lo : Int) (n : Nat) : Turn P w K tg (Itr lo n) [it] it (fun i h => IsRangeIter h it (lo + (i : Nat) * 1) ((n : Int) - (i : Nat)) 1) where
  mem := by simp
  obj := fun i h st b hb => by
    have e : b = it := by simpa using hb
    subst e
    exact ⟨_, st, fun v z => by
      have z' : Data.fields _ = Data.cell v := z
      cases z'⟩
  keep := fun i h h' st k => k it (by simp) _ st
  item := by
    intro X hP hw hK hc i pins s σ H E I hf st hg
    subst hP hw hK
    obtain ⟨f0, f1, f2, f3, f4, f5⟩ := hf it (by simp)
    have W := Walks.range (prog := X.prog) (w := X.w) (I.ok.hd hc) it lo 1 n
    refine W.item i s _ _ hg st fun v h' tk hv st' kk => ?_
    obtain ⟨t, rfl⟩ := hv
    have I1 : Inv X pins σ H { s with heap := h', toks := tk } := I.turned (fun b o hb e => kk b o (by simpa using hb) e) f0 f1 f3 f4 f5
    refine ⟨_, rfl, go_of (s := { s with heap := h', toks := tk }) (n := "range_iterator") st' rfl rfl (by decide) ⟨.int (lo + i), H, I1, ⟨t, ?_⟩, ⟨rfl, rfl⟩, st', fun b hb => (hf b hb).1⟩⟩
    rw [Int.mul_one]
  done := by
    intro X hP hw hK hc i pins s σ H E I hf st hg
    subst hP hw hK
    obtain ⟨f0, f1, f2, f3, f4, f5⟩ := hf it (by simp)
    exact wpAny_pyNext_range_end (I.ok.hd hc) st (by have : n ≤ i := hg; omega) fun h' eb => ⟨rfl, I.turned (t' := s.toks) (fun b o hb e => eb b o hb e) f0 f1 f3 f4 f5⟩
  self := fun _ _ _ _ _ st h => wpAny_pyIter_rangeiter st h
end L2

namespace L2
open PySem PySem.Spec PyProof.Rows
section
variable {X : Cx} {tg : Expr}
def iList (K : PySem.W.Frag) (tl : TE) : TI := fun σ H R => tl σ H fun x H1 => ∃ a, x = .ref a ∧ (∃ xs, SqL K H1 a xs) ∧ R (Itl K a) H1
def iTup (K : PySem.W.Frag) (tl : TE) : TI := fun σ H R => tl σ H fun x H1 => ∃ a, x = .ref a ∧ (∃ xs, SqT K H1 a xs) ∧ R (Itt K a) H1
theorem pi_list {l : Expr} {tl : TE} (hl : PE X l tl) : PI X tg l (iList X.K tl) := by
  intro pins s σ H R I h
  refine thn (hl pins s σ H _ I h) fun v s1 ⟨x, H1, I1, r1, q1⟩ => ?_
  obtain ⟨a, e, ⟨xs, hq⟩, q⟩ := q1
  subst e
  cases r1
  obtain ⟨its, rv, p, hz⟩ := I1.list hq
  refine wpAny_pyIter_list p.isList ?_
  refine ⟨s1.heap.objs.size, [s1.heap.objs.size], _, _, H1, rfl, I1.kept (t' := s1.toks) fun b o e => Heap.get?_push_of_some _ e, turn_list a _, ⟨_, Heap.get?_push_size _ rfl, rfl, rfl⟩, fun b hb => ?_, q⟩
  have e : b = s1.heap.objs.size := by simpa using hb
  subst e
  exact I1.fpOk (Nat.le_refl _) (I1.hok.fresh (Nat.le_refl _))
theorem pi_tup {l : Expr} {tl : TE} (hl : PE X l tl) : PI X tg l (iTup X.K tl) := by
  intro pins s σ H R I h
  refine thn (hl pins s σ H _ I h) fun v s1 ⟨x, H1, I1, r1, q1⟩ => ?_
  obtain ⟨a, e, ⟨xs, hq⟩, q⟩ := q1
  subst e
  cases r1
  obtain ⟨its, rv, p, hz⟩ := I1.tuple hq
  refine wpAny_pyIter_tuple (show s1.heap.IsTuple a its.toArray from p) ?_
  refine ⟨s1.heap.objs.size, [s1.heap.objs.size], _, _, H1, rfl, I1.kept (t' := s1.toks) fun b o e => Heap.get?_push_of_some _ e, turn_tuple a _, ⟨_, Heap.get?_push_size _ rfl, rfl, rfl⟩, fun b hb => ?_, q⟩
  have e : b = s1.heap.objs.size := by simpa using hb
  subst e
  exact I1.fpOk (Nat.le_refl _) (I1.hok.fresh (Nat.le_refl _))
/-- a range object just made, walked -/
theorem range_it {pins : List (Addr × Obj)} {σ : St} {H : Hp} {s : Shared} {R : It → Hp → Prop} {E : Value → Shared → Prop} {lo hi : Int} {t u v : Tok} {tk : Nat} (I : Inv X pins σ H s) (h1 : -(2 ^ 62) ≤ lo) (h2 : lo < 2 ^ 62) (h3 : -(2 ^ 62) ≤ hi) (h4 : hi < 2 ^ 62)
    (q : R (Itr lo (hi - lo).toNat) H) : wpAny (model X.prog X.w) X.A (pyIter (.ref s.heap.objs.size)) (PIE X pins σ tg R) E { s with heap := s.heap.push { cls := .type "range", data := .fields #[.int lo t, .int hi u, .int 1 v] }, toks := tk } := by
  refine wpAny_pyIter_range (IsRange.new ..) (small_one h1 h2 h3 h4) ?_
  have I1 : Inv X pins σ H { s with heap := s.heap.push { cls := .type "range", data := .fields #[.int lo t, .int hi u, .int 1 v] }, toks := tk } := I.kept fun b o e => Heap.get?_push_of_some _ e
  refine ⟨(s.heap.push { cls := .type "range", data := .fields #[.int lo t, .int hi u, .int 1 v] }).objs.size, [(s.heap.push { cls := .type "range", data := .fields #[.int lo t, .int hi u, .int 1 v] }).objs.size], _, _, H, rfl,
    I1.kept (t' := tk) fun b o e => Heap.get?_push_of_some _ e, turn_range _ lo (hi - lo).toNat, ?_, fun b hb => ?_, q⟩
  · have e1 : lo + ((0 : Nat) : Int) * 1 = lo := by simp
    have e2 : (((hi - lo).toNat : Nat) : Int) - ((0 : Nat) : Int) = Builtin.Range.rangeSize lo hi 1 := by rw [rangeSize_one]; split <;> omega
    show IsRangeIter _ _ (lo + ((0 : Nat) : Int) * 1) ((((hi - lo).toNat : Nat) : Int) - ((0 : Nat) : Int)) 1
    rw [e1, e2]
    exact Heap.get?_push_size _ rfl
  · have e : b = (s.heap.push { cls := .type "range", data := .fields #[.int lo t, .int hi u, .int 1 v] }).objs.size := by simpa using hb
    subst e
    exact I1.fpOk (Nat.le_refl _) (I1.hok.fresh (Nat.le_refl _))
def iRng1 (ta : TA) : TI := fun σ H R => ta σ H fun vs H1 => ∃ j : Int, vs = [.int j] ∧ -(2 ^ 62) ≤ j ∧ j < 2 ^ 62 ∧ R (Itr 0 j.toNat) H1
theorem pi_range1 {a : Expr} {ta : TA} {p pos : Pos} (hg : Gl X "range") (hm : X.mg "range" = none) (ha : PA X [a] ta) (hs : starEach [a] X.env = [(false, eval a X.env)] := by rfl) : PI X tg (.Call (.Name "range" p) [a] [] pos) (iRng1 ta) := by
  intro pins s σ H R I h
  refine Call_ (ld_blt I hg hm boot_range (PyProof.Rows.callWith_type1 (thn (ha pos pins s σ H _ I h) fun us s1 ⟨vs, H1, I1, r1, q1⟩ => ?_) hs rfl))
  obtain ⟨j, e, q1, q2, q⟩ := q1
  subst e
  cases r1 with
  | cons r rr =>
    cases rr
    obtain ⟨t, rfl⟩ := r
    exact call_range_1 (range_it I1 (by omega) (by omega) q1 q2 (by simpa using q))
/-! ### for -/
/-- W: the invariant by the turn and a measure; N: what the body is to reach -/
def tFor (wi : TI) (g : TG) (tb : TS) : TS := fun D σ H => wi σ H fun J H1 => ∃ W : Nat → Nat → St → Hp → Prop, (∃ m, W 0 m σ H1) ∧ ∀ i m σ H, W i m σ H →
  (J.stop i H ∧ D.nx σ H) ∨ (J.go i H ∧ ∃ N : St → Hp → Prop, (∀ σ' H', N σ' H' → ∃ m', m' < m ∧ W (i + 1) m' σ' H') ∧ ∀ x H', J.yld i H x H' → g x σ H' fun σ2 H2 => tb { D with nx := N, ct := N, bk := D.nx } σ2 H2)
/-- the records at fp as they stand -/
def pinsAt (fp : List Addr) (h : Heap) : List (Addr × Obj) := fp.filterMap fun b => (h.get? b).map fun o => (b, o)
theorem mem_pinsAt {fp : List Addr} {h : Heap} {b : Addr} {o : Obj} (hb : b ∈ fp) (e : h.get? b = some o) : (b, o) ∈ pinsAt fp h := List.mem_filterMap.mpr ⟨b, hb, by rw [e]; rfl⟩
theorem of_pinsAt {fp : List Addr} {h : Heap} {p : Addr × Obj} (hp : p ∈ pinsAt fp h) : p.1 ∈ fp ∧ h.get? p.1 = some p.2 := by
  obtain ⟨b, hb, e⟩ := List.mem_filterMap.mp hp
  cases q : h.get? b with
  | none => rw [q] at e; cases e
  | some o =>
    rw [q] at e
    have e' : (b, o) = p := Option.some.inj e
    subst e'
    exact ⟨hb, q⟩
theorem Inv.pinned {pins : List (Addr × Obj)} {σ : St} {H : Hp} {s : Shared} {fp : List Addr} (I : Inv X pins σ H s) (hf : ∀ b ∈ fp, FpOk X pins H b) (ho : ∀ b ∈ fp, ∃ o, s.heap.get? b = some o ∧ ∀ v, o.data ≠ .cell v) : Inv X (pins ++ pinsAt fp s.heap) σ H s :=
  I.pins_of fun p hp => (List.mem_append.mp hp).elim (fun z => I.pin p (List.mem_append_right _ z)) fun z => by
    obtain ⟨hb, e⟩ := of_pinsAt z
    obtain ⟨f0, f1, f2, _⟩ := hf p.1 hb
    obtain ⟨o, e', d⟩ := ho p.1 hb
    rw [e] at e'; cases e'
    exact ⟨e, f0, f1, f2, d⟩
theorem Inv.unpinned {pins pl : List (Addr × Obj)} {σ : St} {H : Hp} {s : Shared} (I : Inv X (pins ++ pl) σ H s) : Inv X pins σ H s := I.pins_of fun p hp => I.pin p (List.mem_append_right _ (List.mem_append_left _ hp))
theorem ps_for {iter : Expr} {body : List Stmt} {wi : TI} {g : TG} {tb : TS} {pos : Pos} (hp : PassesOwn (model X.prog X.w) X.A X.env X.xe) (hc : X.calm = true) (hi : PI X tg iter wi) (hg : PG X tg g) (hb : PSs X body tb)
    (hs : ∀ x, foldedSetIterable iter X.env x = pure x := by intro _; rfl) : PS X (.For tg iter body [] pos) (tFor wi g tb) := by
  intro pins s σ H D I h
  refine wpAny_For (thn (hi pins s σ H _ I h) fun v s1 h1 => thn h1 fun itv s2 h2 => ?_) hs
  obtain ⟨it, fp, tn, J, H2, e, I2, T, st2, f2, W, ⟨m0, w0⟩, turn⟩ := h2
  subst e
  -- what stays true of the iterator's objects through the loop
  have stat : ∀ {H' : Hp}, (∀ b ∈ fp, H' b = none) → ∀ b ∈ fp, FpOk X pins H' b := fun hn b hb => ⟨hn b hb, (f2 b hb).2⟩
  refine codeAny_forLoop_any (fun n s' => ∃ i σ' H', Inv X pins σ' H' s' ∧ tn i s'.heap ∧ (∀ b ∈ fp, H' b = none) ∧ W i n σ' H') ?_ m0 ⟨0, σ, H2, I2, st2, fun b hb => (f2 b hb).1, w0⟩
  rintro n s3 ⟨i, σ3, H3, I3, st3, fr3, w3⟩
  rcases turn i n σ3 H3 w3 with ⟨stop, qn⟩ | ⟨go, N, hN, step⟩
  · refine wpAny_passesOwn hp (thn (T.done X rfl rfl rfl hc i pins s3 σ3 H3 X.xe I3 (stat fr3) st3 stop) fun r s4 ⟨hr, I4⟩ => ?_)
    subst hr
    exact wpAny_execs_nil ⟨σ3, H3, I4, qn⟩
  · refine wpAny_passesOwn hp (thn (T.item X rfl rfl rfl hc i pins s3 σ3 H3 X.xe I3 (stat fr3) st3 go) fun r s4 ⟨u, hr, h4⟩ => ?_)
    subst hr
    refine wpAny_passesOwn hp (thn h4 fun _ s5 ⟨x, H5, I5, r5, y5, st5, fr5⟩ => ?_)
    have I5' := I5.pinned (stat fr5) (T.obj _ _ st5)
    refine wpAny_passesOwn hp (thn (hg _ s5 σ3 H5 x u _ I5' r5 (step x H5 y5)) fun _ s6 ⟨σ6, H6, I6, q6⟩ => ?_)
    refine wpAny_passesOwn hp (thn (hb _ s6 σ6 H6 _ I6 q6) fun f s7 q7 => ?_)
    have again : ∀ {σ7 : St} {H7 : Hp}, Inv X (pins ++ pinsAt fp s5.heap) σ7 H7 s7 → N σ7 H7 → ∃ m, m < n ∧ ∃ i σ' H', Inv X pins σ' H' s7 ∧ tn i s7.heap ∧ (∀ b ∈ fp, H' b = none) ∧ W i m σ' H' := fun {σ7 H7} I7 n7 => by
      obtain ⟨m', hm, w7⟩ := hN σ7 H7 n7
      refine ⟨m', hm, i + 1, σ7, H7, I7.unpinned, T.keep _ _ _ st5 fun b hb o e => (I7.pin (b, o) (List.mem_append_right _ (List.mem_append_right _ (mem_pinsAt hb e)))).1, fun b hb => ?_, w7⟩
      obtain ⟨o, e, d⟩ := T.obj _ _ st5 b hb
      exact (I7.pin (b, o) (List.mem_append_right _ (List.mem_append_right _ (mem_pinsAt hb e)))).2.1
    cases f with
    | next => obtain ⟨σ7, H7, I7, n7⟩ := q7; exact again I7 n7
    | cont => obtain ⟨σ7, H7, I7, n7⟩ := q7; exact again I7 n7
    | brk => obtain ⟨σ7, H7, I7, q7⟩ := q7; exact ⟨σ7, H7, I7.unpinned, q7⟩
    | ret v => obtain ⟨x7, σ7, H7, I7, r7, q7⟩ := q7; exact ⟨x7, σ7, H7, I7.unpinned, r7, q7⟩
end

/-! ### the forms one uses -/
/-- over a list that the body leaves as it is -/
theorem for_list {K : PySem.W.Frag} {a : Addr} {xs : List V} {g : TG} {tb : TS} {D : Ends} {σ : St} {H : Hp} (Pv : Nat → St → Hp → Prop) (h0 : Pv 0 σ H) (hl : ∀ i σ H, i ≤ xs.length → Pv i σ H → SqL K H a xs)
    (hs : ∀ i x σ H, xs[i]? = some x → Pv i σ H → g x σ H fun σ2 H2 => tb { D with nx := Pv (i + 1), ct := Pv (i + 1), bk := D.nx } σ2 H2) (hd : ∀ σ H, Pv xs.length σ H → D.nx σ H) :
    ∃ W : Nat → Nat → St → Hp → Prop, (∃ m, W 0 m σ H) ∧ ∀ i m σ H, W i m σ H →
      ((Itl K a).stop i H ∧ D.nx σ H) ∨ ((Itl K a).go i H ∧ ∃ N : St → Hp → Prop, (∀ σ' H', N σ' H' → ∃ m', m' < m ∧ W (i + 1) m' σ' H') ∧ ∀ x H', (Itl K a).yld i H x H' → g x σ H' fun σ2 H2 => tb { D with nx := N, ct := N, bk := D.nx } σ2 H2) := by
  refine ⟨fun i m σ H => m = xs.length - i ∧ i ≤ xs.length ∧ Pv i σ H, ⟨xs.length, by simp, Nat.zero_le _, h0⟩, ?_⟩
  rintro i m σ H ⟨rfl, hi, p⟩
  have q := hl i σ H hi p
  by_cases hlt : i < xs.length
  · refine .inr ⟨⟨xs, xs[i], q, by simp [hlt]⟩, Pv (i + 1), fun σ' H' p' => ⟨xs.length - (i + 1), by omega, rfl, hlt, p'⟩, fun x H' y => ?_⟩
    obtain ⟨e, y⟩ := y
    subst e
    exact hs i x σ _ (y xs q) p
  · have e : i = xs.length := by omega
    subst e
    exact .inl ⟨⟨xs, q, Nat.le_refl _⟩, hd σ H p⟩
theorem for_tup {K : PySem.W.Frag} {a : Addr} {xs : List V} {g : TG} {tb : TS} {D : Ends} {σ : St} {H : Hp} (Pv : Nat → St → Hp → Prop) (h0 : Pv 0 σ H) (hl : ∀ i σ H, i ≤ xs.length → Pv i σ H → SqT K H a xs)
    (hs : ∀ i x σ H, xs[i]? = some x → Pv i σ H → g x σ H fun σ2 H2 => tb { D with nx := Pv (i + 1), ct := Pv (i + 1), bk := D.nx } σ2 H2) (hd : ∀ σ H, Pv xs.length σ H → D.nx σ H) :
    ∃ W : Nat → Nat → St → Hp → Prop, (∃ m, W 0 m σ H) ∧ ∀ i m σ H, W i m σ H →
      ((Itt K a).stop i H ∧ D.nx σ H) ∨ ((Itt K a).go i H ∧ ∃ N : St → Hp → Prop, (∀ σ' H', N σ' H' → ∃ m', m' < m ∧ W (i + 1) m' σ' H') ∧ ∀ x H', (Itt K a).yld i H x H' → g x σ H' fun σ2 H2 => tb { D with nx := N, ct := N, bk := D.nx } σ2 H2) := by
  refine ⟨fun i m σ H => m = xs.length - i ∧ i ≤ xs.length ∧ Pv i σ H, ⟨xs.length, by simp, Nat.zero_le _, h0⟩, ?_⟩
  rintro i m σ H ⟨rfl, hi, p⟩
  have q := hl i σ H hi p
  by_cases hlt : i < xs.length
  · refine .inr ⟨⟨xs, xs[i], q, by simp [hlt]⟩, Pv (i + 1), fun σ' H' p' => ⟨xs.length - (i + 1), by omega, rfl, hlt, p'⟩, fun x H' y => ?_⟩
    obtain ⟨e, y⟩ := y
    subst e
    exact hs i x σ _ (y xs q) p
  · have e : i = xs.length := by omega
    subst e
    exact .inl ⟨⟨xs, q, Nat.le_refl _⟩, hd σ H p⟩
theorem for_range {lo : Int} {n : Nat} {g : TG} {tb : TS} {D : Ends} {σ : St} {H : Hp} (Pv : Nat → St → Hp → Prop) (h0 : Pv 0 σ H)
    (hs : ∀ i σ H, i < n → Pv i σ H → g (.int (lo + i)) σ H fun σ2 H2 => tb { D with nx := Pv (i + 1), ct := Pv (i + 1), bk := D.nx } σ2 H2) (hd : ∀ σ H, Pv n σ H → D.nx σ H) :
    ∃ W : Nat → Nat → St → Hp → Prop, (∃ m, W 0 m σ H) ∧ ∀ i m σ H, W i m σ H →
      ((Itr lo n).stop i H ∧ D.nx σ H) ∨ ((Itr lo n).go i H ∧ ∃ N : St → Hp → Prop, (∀ σ' H', N σ' H' → ∃ m', m' < m ∧ W (i + 1) m' σ' H') ∧ ∀ x H', (Itr lo n).yld i H x H' → g x σ H' fun σ2 H2 => tb { D with nx := N, ct := N, bk := D.nx } σ2 H2) := by
  refine ⟨fun i m σ H => m = n - i ∧ i ≤ n ∧ Pv i σ H, ⟨n, by simp, Nat.zero_le _, h0⟩, ?_⟩
  rintro i m σ H ⟨rfl, hi, p⟩
  by_cases hlt : i < n
  · refine .inr ⟨hlt, Pv (i + 1), fun σ' H' p' => ⟨n - (i + 1), by omega, rfl, hlt, p'⟩, fun x H' y => ?_⟩
    obtain ⟨e, y⟩ := y
    subst e y
    exact hs i σ _ hlt p
  · have e : i = n := by omega
    subst e
    exact .inl ⟨Nat.le_refl _, hd σ H p⟩
end L2

namespace L2
open PySem PySem.Spec PyProof.Rows

abbrev R2 := V → V → Hp → VK → Prop
/-- a two-place operation on values: f is binaryOp op, inplaceOp op or compareOp op -/
def OpR (X : Cx) (f : Value → Value → Sem Value) (r : R2) : Prop :=
  ∀ (pins : List (Addr × Obj)) (s : Shared) (σ : St) (H : Hp) (x y : V) (v u : Value) (Q : VK), Inv X pins σ H s → RelV x v → RelV y u → r x y H Q →
    wpAny (model X.prog X.w) X.A (f v u) (EP X pins σ Q) X.xe s
/-- a one-place operation -/
def UnR (X : Cx) (f : Value → Sem Value) (r : V → Hp → VK → Prop) : Prop :=
  ∀ (pins : List (Addr × Obj)) (s : Shared) (σ : St) (H : Hp) (x : V) (v : Value) (Q : VK), Inv X pins σ H s → RelV x v → r x H Q →
    wpAny (model X.prog X.w) X.A (f v) (EP X pins σ Q) X.xe s
/-- a call of a value that is known (a builtin, a type) with values -/
def CallR (X : Cx) (f : Value) (r : List V → Hp → VK → Prop) : Prop :=
  ∀ (pins : List (Addr × Obj)) (s : Shared) (σ : St) (H : Hp) (xs : List V) (us : List Value) (Q : VK), Inv X pins σ H s → Vals xs us → r xs H Q →
    wpAny (model X.prog X.w) X.A (call f us) (EP X pins σ Q) X.xe s
/-- a value's truth -/
def TruR (X : Cx) (r : V → Hp → (Bool → Hp → Prop) → Prop) : Prop :=
  ∀ (pins : List (Addr × Obj)) (s : Shared) (σ : St) (H : Hp) (x : V) (v : Value) (Q : Bool → Hp → Prop), Inv X pins σ H s → RelV x v → r x H Q →
    wpAny (model X.prog X.w) X.A (truthy v) (TP X pins σ Q) X.xe s

def tOp (r : R2) (ta tb : TE) : TE := fun σ H Q => ta σ H fun x H1 => tb σ H1 fun y H2 => r x y H2 Q
def tUn (r : V → Hp → VK → Prop) (ta : TE) : TE := fun σ H Q => ta σ H fun x H1 => r x H1 Q
/-- ints in, under C, and a value out -/
def rI (C : Int → Int → Prop) (g : Int → Int → V) : R2 := fun x y H Q => ∃ i j, x = .int i ∧ y = .int j ∧ C i j ∧ Q (g i j) H
def rI0 (g : Int → Int → V) : R2 := fun x y H Q => ∃ i j, x = .int i ∧ y = .int j ∧ Q (g i j) H
def rU (g : Int → V) : V → Hp → VK → Prop := fun x H Q => ∃ i, x = .int i ∧ Q (g i) H

section
variable {X : Cx} {a b c : Expr} {ta tb tc : TE} {pos : Pos}

theorem binT (ha : PE X a ta) (hb : PE X b tb) {pins : List (Addr × Obj)} {s : Shared} {σ : St} {H : Hp} {R : V → V → Hp → Prop} (I : Inv X pins σ H s)
    (h : ta σ H fun x H1 => tb σ H1 fun y H2 => R x y H2) {Q : Value → Shared → Prop} {f : Value → Value → Sem Value}
    (hf : ∀ v u s2 x y H2, Inv X pins σ H2 s2 → RelV x v → RelV y u → R x y H2 → wpAny (model X.prog X.w) X.A (f v u) Q X.xe s2) :
    wpAny (model X.prog X.w) X.A (eval a X.env) (fun v s₁ => wpAny (model X.prog X.w) X.A (eval b X.env) (fun u s₂ => wpAny (model X.prog X.w) X.A (f v u) Q X.xe s₂) X.xe s₁) X.xe s := by
  refine thn (ha pins s σ H _ I h) fun v s1 ⟨x, H1, I1, r1, q1⟩ => ?_
  refine thn (hb pins s1 σ H1 _ I1 q1) fun u s2 ⟨y, H2, I2, r2, q2⟩ => ?_
  exact hf v u s2 x y H2 I2 r1 r2 q2

theorem pe_op {op : Operator} {r : R2} (ho : OpR X (binaryOp op) r) (ha : PE X a ta) (hb : PE X b tb) : PE X (.BinOp a op b pos) (tOp r ta tb) := by
  intro pins s σ H Q I h
  exact wpAny_BinOp (binT ha hb I h fun v u s2 x y H2 I2 rx ry q => ho pins s2 σ H2 x y v u Q I2 rx ry q)
theorem pe_un {op : UnaryOp} {r : V → Hp → VK → Prop} (ho : UnR X (unaryOp op) r) (ha : PE X a ta) : PE X (.UnaryOp op a pos) (tUn r ta) := by
  intro pins s σ H Q I h
  exact UnaryOp_ (thn (ha pins s σ H _ I h) fun v s1 ⟨x, H1, I1, r1, q1⟩ => ho pins s1 σ H1 x v Q I1 r1 q1)
/-! ### ints -/
theorem opI {f : Value → Value → Sem Value} {C : Int → Int → Prop} {g : Int → Int → Int}
    (rule : ∀ (i j : Int) (t u : Tok) (s : Shared) (Q : Value → Shared → Prop) (E : Value → Shared → Prop), C i j → Q (.int (g i j) s.toks) { s with toks := s.toks + 1 } → wpAny (model X.prog X.w) X.A (f (.int i t) (.int j u)) Q E s) :
    OpR X f (rI C fun i j => .int (g i j)) := by
  intro pins s σ H x y v u Q I rx ry h
  obtain ⟨i, j, rfl, rfl, hc, q⟩ := h
  obtain ⟨t, rfl⟩ := rx
  obtain ⟨t', rfl⟩ := ry
  exact rule i j t t' s _ _ hc ⟨.int (g i j), H, I.tok _, ⟨_, rfl⟩, q⟩
theorem opI0 {f : Value → Value → Sem Value} {g : Int → Int → Int}
    (rule : ∀ (i j : Int) (t u : Tok) (s : Shared) (Q : Value → Shared → Prop) (E : Value → Shared → Prop), Q (.int (g i j) s.toks) { s with toks := s.toks + 1 } → wpAny (model X.prog X.w) X.A (f (.int i t) (.int j u)) Q E s) :
    OpR X f (rI0 fun i j => .int (g i j)) := by
  intro pins s σ H x y v u Q I rx ry h
  obtain ⟨i, j, rfl, rfl, q⟩ := h
  obtain ⟨t, rfl⟩ := rx
  obtain ⟨t', rfl⟩ := ry
  exact rule i j t t' s _ _ ⟨.int (g i j), H, I.tok _, ⟨_, rfl⟩, q⟩
theorem opB0 {f : Value → Value → Sem Value} {g : Int → Int → Bool}
    (rule : ∀ (i j : Int) (t u : Tok) (s : Shared) (Q : Value → Shared → Prop) (E : Value → Shared → Prop), Q (.bool (g i j)) s → wpAny (model X.prog X.w) X.A (f (.int i t) (.int j u)) Q E s) :
    OpR X f (rI0 fun i j => .bl (g i j)) := by
  intro pins s σ H x y v u Q I rx ry h
  obtain ⟨i, j, rfl, rfl, q⟩ := h
  obtain ⟨t, rfl⟩ := rx
  obtain ⟨t', rfl⟩ := ry
  exact rule i j t t' s _ _ ⟨.bl (g i j), H, I, rfl, q⟩

def CMul (i j : Int) : Prop := (-(2 ^ 64) < i ∧ i < 2 ^ 64) ∨ (-(2 ^ 64) < j ∧ j < 2 ^ 64)
theorem CMul.ok {i j : Int} (h : CMul i j) : IntMulOk i j := by
  rcases h with ⟨h1, h2⟩ | ⟨h1, h2⟩
  · exact .of_left (intBits_le_64 h1 h2)
  · exact .of_right (intBits_le_64 h1 h2)
theorem op_add : OpR X (binaryOp .Add) (rI0 fun i j => .int (i + j)) := opI0 fun _ _ _ _ _ _ _ q => add_int q
theorem op_sub : OpR X (binaryOp .Sub) (rI0 fun i j => .int (i - j)) := opI0 fun _ _ _ _ _ _ _ q => sub_int q
theorem op_mul : OpR X (binaryOp .Mult) (rI CMul fun i j => .int (i * j)) := opI fun _ _ _ _ _ _ _ hc q => mul_int q hc.ok
/-- % by a positive divisor of any size -/
theorem op_mod : OpR X (binaryOp .Mod) (rI (fun _ j => 0 < j) fun i j => .int (i % j)) := opI fun i j _ _ _ _ _ hc q => by
  have h1 : (0 : Int) < j := hc
  exact mod_int' (by omega) (by rw [Int.fmod_eq_emod_of_nonneg i (by omega)]; exact q)
theorem op_xor : OpR X (binaryOp .BitXor) (rI0 fun i j => .int (Builtin.bitXor i j)) := opI0 fun _ _ _ _ _ _ _ q => xor_int q

theorem unI {f : Value → Sem Value} {g : Int → Int}
    (rule : ∀ (i : Int) (t : Tok) (s : Shared) (Q : Value → Shared → Prop) (E : Value → Shared → Prop), Q (.int (g i) s.toks) { s with toks := s.toks + 1 } → wpAny (model X.prog X.w) X.A (f (.int i t)) Q E s) :
    UnR X f (rU fun i => .int (g i)) := by
  intro pins s σ H x v Q I rx h
  obtain ⟨i, rfl, q⟩ := h
  obtain ⟨t, rfl⟩ := rx
  exact rule i t s _ _ ⟨.int (g i), H, I.tok _, ⟨_, rfl⟩, q⟩
theorem un_neg : UnR X (unaryOp .USub) (rU fun i => .int (-i)) := unI fun _ _ _ _ _ q => neg_int q
end

/-! ### comparisons -/
/-- the scalars that == tells apart as data does -/
def scal : V → V → Bool
  | .non, .non => true | .non, .int _ => true | .int _, .non => true | .non, .bl _ => true | .bl _, .non => true | .non, .str _ => true | .str _, .non => true
  | .int _, .int _ => true | .bl _, .bl _ => true | .str _, .str _ => true | .byt _, .byt _ => true
  | .int _, .str _ => true | .str _, .int _ => true | .bl _, .str _ => true | .str _, .bl _ => true
  | _, _ => false
def rEq : R2 := fun x y H Q => scal x y = true ∧ Q (.bl (decide (x = y))) H
theorem dec_int {i j : Int} : decide (V.int i = V.int j) = (i == j) := by
  rw [Bool.eq_iff_iff]
  simp
theorem dec_bl {i j : Bool} : decide (V.bl i = V.bl j) = (i == j) := by
  rw [Bool.eq_iff_iff]
  simp
theorem dec_str {i j : Str} : decide (V.str i = V.str j) = (i == j) := by
  rw [Bool.eq_iff_iff]
  simp
theorem dec_byt {i j : Array UInt8} : decide (V.byt i = V.byt j) = (i.toList == j.toList) := by
  rw [Bool.eq_iff_iff]
  cases i
  cases j
  simp

section
variable {X : Cx} {a b c : Expr} {ta tb tc : TE} {pos : Pos}
theorem fin_bl {pins : List (Addr × Obj)} {σ : St} {H : Hp} {s : Shared} {Q : VK} {k k' : Bool} (I : Inv X pins σ H s) (q : Q (.bl k) H) (e : k = k') : EP X pins σ Q (.bool k') s := by
  subst e
  exact ⟨.bl k, H, I, rfl, q⟩
theorem op_eq : OpR X (compareOp .Eq) rEq := by
  intro pins s σ H x y v u Q I rx ry h
  obtain ⟨hs, q⟩ := h
  cases x with
  | non =>
    cases rx
    cases y with
    | non => cases ry; exact PySem.EqNone.eq_none_none (fin_bl I q (by simp))
    | bl j => cases ry; exact PySem.EqNone.eq_none_bool (fin_bl I q (by simp))
    | int j => obtain ⟨t', rfl⟩ := ry; exact PySem.EqNone.eq_none_int (fin_bl I q (by simp))
    | str j => obtain ⟨t', rfl⟩ := ry; exact PySem.EqNone.eq_none_str (fin_bl I q (by simp))
    | _ => exact absurd (show false = true from hs) Bool.false_ne_true
  | bl i =>
    cases rx
    cases y with
    | non => cases ry; exact PySem.EqNone.eq_bool_none (fin_bl I q (by simp))
    | bl j => cases ry; exact eq_bool (fin_bl I q dec_bl)
    | str j => obtain ⟨t', rfl⟩ := ry; exact PySem.EqMixed.eq_bool_str (fin_bl I q (by simp))
    | _ => exact absurd (show false = true from hs) Bool.false_ne_true
  | int i =>
    obtain ⟨t, rfl⟩ := rx
    cases y with
    | non => cases ry; exact PySem.EqNone.eq_int_none (fin_bl I q (by simp))
    | int j => obtain ⟨t', rfl⟩ := ry; exact eq_int (fin_bl I q dec_int)
    | str j => obtain ⟨t', rfl⟩ := ry; exact PySem.EqMixed.eq_int_str (fin_bl I q (by simp))
    | _ => exact absurd (show false = true from hs) Bool.false_ne_true
  | str i =>
    obtain ⟨t, rfl⟩ := rx
    cases y with
    | non => cases ry; exact PySem.EqNone.eq_str_none (fin_bl I q (by simp))
    | bl j => cases ry; exact PySem.EqMixed.eq_str_bool (fin_bl I q (by simp))
    | int j => obtain ⟨t', rfl⟩ := ry; exact PySem.EqMixed.eq_str_int (fin_bl I q (by simp))
    | str j => obtain ⟨t', rfl⟩ := ry; exact eq_str (fin_bl I q dec_str)
    | _ => exact absurd (show false = true from hs) Bool.false_ne_true
  | byt i =>
    obtain ⟨t, rfl⟩ := rx
    cases y with
    | byt j => obtain ⟨t', rfl⟩ := ry; exact PySem.W.eq_bytes (fin_bl I q dec_byt)
    | _ => exact absurd (show false = true from hs) Bool.false_ne_true
  | _ => cases y <;> exact absurd (show false = true from hs) Bool.false_ne_true
theorem op_lt : OpR X (compareOp .Lt) (rI0 fun i j => .bl (decide (i < j))) := opB0 fun _ _ _ _ _ _ _ q => lt_int q
theorem op_gt : OpR X (compareOp .Gt) (rI0 fun i j => .bl (decide (j < i))) := opB0 fun _ _ _ _ _ _ _ q => gt_int q
theorem op_ge : OpR X (compareOp .GtE) (rI0 fun i j => .bl (decide (j ≤ i))) := opB0 fun _ _ _ _ _ _ _ q => ge_int q
theorem nomark (b : Expr) {op : CmpOp} (h : op ≠ .In := by decide) (h2 : op ≠ .NotIn := by decide) : behindInMarks op b = false := by
  have e1 : (op == CmpOp.In) = false := by cases op <;> first | rfl | exact absurd rfl h
  have e2 : (op == CmpOp.NotIn) = false := by cases op <;> first | rfl | exact absurd rfl h2
  cases b <;> simp [behindInMarks, e1, e2]
/-- a reading of a value as a test -/
def tTest (t : TE) : TT := fun σ H Q => t σ H fun x H' => ∃ k, x = .bl k ∧ Q k H'
theorem pt_cmpR {op : CmpOp} {r : R2} (ho : OpR X (compareOp op) r) (ha : PE X a ta) (hb : PE X b tb) (hm : behindInMarks op b = false) : PT X (.Compare a [op] [b] pos) (tTest (tOp r ta tb)) := by
  intro pins s σ H Q I h
  refine wpAny_isTrue_Compare1 (thn (ha pins s σ H _ I h) fun v s1 ⟨x, H1, I1, r1, q1⟩ => thn (hb pins s1 σ H1 _ I1 q1) fun u s2 ⟨y, H2, I2, r2, q2⟩ =>
    thn (ho pins s2 σ H2 x y v u _ I2 r1 r2 q2) fun c s3 ⟨z, H3, I3, r3, k, e, q3⟩ => ?_) hm
  subst e
  cases r3
  exact wpAny_truthy_bool ⟨H3, I3, q3⟩
/-! ### truth -/
/-- a value's truth by the abstract heap -/
def TruV (K : PySem.W.Frag) (x : V) (H : Hp) (k : Bool) : Prop :=
  match x with
  | .non => k = false
  | .bl b => k = b
  | .int i => k = (i != 0)
  | .str y => y.length ≤ sizeLine ∧ k = ((y.length : Int) != 0)
  | .byt y => y.size ≤ sizeLine ∧ k = ((y.size : Int) != 0)
  | .ref p => (∃ xs, SqL K H p xs ∧ k = !xs.isEmpty) ∨ (∃ xs, SqT K H p xs ∧ k = !xs.isEmpty) ∨ ∃ kvs, H p = some (.dK kvs) ∧ k = !kvs.isEmpty
  | _ => False
theorem isEmpty_kv {κ : Type} {kvs : List (κ × V)} {vs : List (κ × Value)} (r : KV kvs vs) : (!vs.isEmpty) = !kvs.isEmpty := by
  cases r <;> rfl
theorem isEmpty_of {xs : List V} {its : List Value} (r : Vals xs its) : (!its.toArray.isEmpty) = !xs.isEmpty := by
  cases r <;> simp
theorem line63 : (sizeLine : Nat) < 2 ^ 63 := by rw [sizeLine_eq]; decide
theorem tru_ok : TruR X (fun x H Q => ∃ k, TruV X.K x H k ∧ Q k H) := by
  intro pins s σ H x v Q I rx h
  obtain ⟨k, e, q⟩ := h
  have hl := line63
  have hs : sizeLine = 16777216 := sizeLine_eq
  cases x with
  | non =>
    cases rx
    have e' : k = false := e
    subst e'
    exact truthy_none ⟨H, I, q⟩
  | bl b =>
    cases rx
    have e' : k = b := e
    subst e'
    exact wpAny_truthy_bool ⟨H, I, q⟩
  | int i =>
    obtain ⟨t, rfl⟩ := rx
    have e' : k = (i != 0) := e
    subst e'
    exact PySem.P.truthy_int ⟨H, I, q⟩
  | str y =>
    obtain ⟨t, rfl⟩ := rx
    obtain ⟨hy, e'⟩ : y.length ≤ sizeLine ∧ k = ((y.length : Int) != 0) := e
    subst e'
    exact PySem.P.truthy_str (by omega) ⟨H, I.tok _, q⟩
  | byt y =>
    obtain ⟨t, rfl⟩ := rx
    obtain ⟨hy, e'⟩ : y.size ≤ sizeLine ∧ k = ((y.size : Int) != 0) := e
    subst e'
    exact PySem.W.truthy_bytes (by omega) ⟨H, I.tok _, q⟩
  | ref p =>
    cases rx
    have e' : (∃ xs, SqL X.K H p xs ∧ k = !xs.isEmpty) ∨ (∃ xs, SqT X.K H p xs ∧ k = !xs.isEmpty) ∨ ∃ kvs, H p = some (.dK kvs) ∧ k = !kvs.isEmpty := e
    rcases e' with ⟨xs, hx, e'⟩ | ⟨xs, hx, e'⟩ | ⟨kvs, hx, e'⟩
    · subst e'
      obtain ⟨its, r, pl, hz⟩ := I.list hx
      have hlen := r.length
      exact wpAny_truthy_list pl.isList (by simp only [List.size_toArray]; omega) ⟨H, I.tok _, by rw [isEmpty_of r]; exact q⟩
    · subst e'
      obtain ⟨its, r, pl, hz⟩ := I.tuple hx
      have hlen := r.length
      exact truthy_tuple pl (by simp only [List.size_toArray]; omega) ⟨H, I.tok _, by rw [isEmpty_of r]; exact q⟩
    · subst e'
      obtain ⟨hz, hS, vs, r, m⟩ : kvs.length ≤ sizeLine ∧ (p == sysModules) = false ∧ ∃ vs, KV kvs vs ∧ s.heap.DictOf (mixKind X.prog X.w) p vs := I.hok p _ hx
      have hlen : kvs.length = vs.length := Paired.length r
      exact wpAny_truthy_dict hS m (by omega) ⟨H, I.tok _, by rw [isEmpty_kv r]; exact q⟩
  | _ => exact (show False from e).elim
/-- any expression whose test is its value's truth (a name, a call, a subscript, a field ..: he by fun _ => rfl) -/
theorem pt_truth (ha : PE X a ta) (he : ∀ whole, isTrue a X.env whole = (do let v ← whole; standAt a.pos; holding [v] (truthy v))) :
    PT X a (fun σ H Q => ta σ H fun x H' => ∃ k, TruV X.K x H' k ∧ Q k H') := by
  intro pins s σ H Q I h
  exact isTrue_plain (thn (ha pins s σ H _ I h) fun v s1 ⟨x, H1, I1, r1, q1⟩ => tru_ok pins s1 σ H1 x v Q I1 r1 q1) (he _)

/-! ### scalar builtins, by CallR -/
theorem vals1 {x : V} {us : List Value} (r : Vals [x] us) : ∃ u, us = [u] ∧ RelV x u := by
  cases r with
  | cons r1 r2 => cases r2; exact ⟨_, rfl, r1⟩
end
end L2

namespace L2
open PySem PySem.Spec PyProof.Rows

/-! ### an instance, its attributes a map -/
structure ObjM (h : Heap) (x dx C : Addr) (mA : Str → Option Value) : Prop where
  obj : h.get? x = some (PySem.W.instObj C dx)
  ns : h.Ns1 dx mA
  ne : dx ≠ x

theorem lookIn_ns {h : Heap} {dx : Addr} {mA : Str → Option Value} (n : h.Ns1 dx mA) : ∃ od, h.get? dx = some od ∧ ∀ name, PySem.W.lookIn name od = some (mA name) := by
  obtain ⟨o, es, ep, ho, hd, hk, _, hm⟩ := n
  refine ⟨o, ho, fun name => ?_⟩
  have e := hm name
  unfold nsFind findBy at e
  rw [← Array.find?_toList] at e
  unfold PySem.W.lookIn
  rw [hd]
  dsimp only
  split
  · rename_i y q
    rw [q] at e
    exact congrArg some e
  · rename_i q
    rw [q] at e
    have a : es.toList.any (·.refKey) = false := by
      rw [List.any_eq_false]
      intro y hy
      obtain ⟨z, t, hkey⟩ := hk y (Array.mem_toList_iff.mp hy)
      simp [DictEntry.refKey, hkey]
    have a' : ¬ es.toList.any (·.refKey) = true := by rw [a]; exact Bool.false_ne_true
    rw [if_neg a']
    exact congrArg some e

theorem ObjM.look {h : Heap} {x dx C : Addr} {mA : Str → Option Value} (I : ObjM h x dx C mA) : ∃ od, PySem.W.InstAt h x (PySem.W.instObj C dx) C (some od) ∧ ∀ name, PySem.W.lookIn name od = some (mA name) :=
  let ⟨od, ho, hl⟩ := lookIn_ns I.ns
  ⟨od, ⟨I.obj, rfl, rfl, ho⟩, hl⟩

section
variable {prog : Program} {w : World} {A : Around} {E : Value → Shared → Prop} {s : Shared} {K : PySem.W.Frag} {x dx C f : Addr} {mA : Str → Option Value} {name : Str} {v : Value}

theorem get_map {expr : Bool} {Q : Value → Shared → Prop} (X : K.In s.heap) (I : ObjM s.heap x dx C mA) (hg : PySem.W.plainGet K C name = true) (hh : PySem.W.hasDictIn K C = true)
    (ha : PySem.W.findIn K (.ref C) name = some none) (hv : mA name = some v) (hv' : PySem.W.handedIn v = true) (h : Q v { s with toks := s.toks + 1 }) :
    wpAny (model prog w) A (getAttr (.ref x) name expr) Q E s := by
  obtain ⟨od, J, hl⟩ := I.look
  exact PySem.W.get_value X J (PySem.W.plainGet_of hg).1 (PySem.W.findObj_own hh ha rfl (by rw [hl, hv])) hv' h

theorem get_meth {pl : Sem Bool} {Q : Value × List Value → Shared → Prop} (X : K.In s.heap) (I : ObjM s.heap x dx C mA) (hg : PySem.W.plainGet K C name = true)
    (hf : PySem.W.findIn K (.ref C) name = some (some (.ref f))) (ht : PySem.W.isFn K (.ref f) = true) (hv : mA name = none) (h : Q (.ref f, [.ref x]) s) :
    wpAny (model prog w) A (getMethod (.ref x) name pl) Q E s := by
  obtain ⟨od, J, hl⟩ := I.look
  exact PySem.W.method_fn X J (PySem.W.plainGet_of hg).1 (PySem.W.plainGet_of hg).2 hf (beq_iff_eq.mp ht) (by show (PySem.W.lookIn name od).map (·.isSome) = some false; rw [hl, hv]; rfl) h

theorem set_map {ns : List Str} {Q : Unit → Shared → Prop} (X : K.In s.heap) (I : ObjM s.heap x dx C mA)
    (hs : PySem.W.findIn K (.ref C) "__setattr__" = some (some (.builtin "object.__setattr__"))) (hp : PySem.W.plainOver K C = true) (ht : PySem.W.takerIn K C name = some none) (hh : PySem.W.hasDictIn K C = true)
    (hw : PySem.Within mA ns) (hsz : ns.length ≤ sizeLine)
    (h : ∀ h', ObjM h' x dx C (fun y => if y = name then some v else mA y) → Heap.SameBut dx s.heap h' → Q () { s with heap := h', toks := s.toks + 2 }) :
    wpAny (model prog w) A (setAttr (.ref x) name v) Q E s := by
  obtain ⟨od, J, hl⟩ := I.look
  refine PySem.W.set_plain X J hs (PySem.W.osa_open (s := { s with toks := s.toks + 1 }) (r := none) X J hp ht fun b => ?_)
  obtain ⟨cd, hc, hd'⟩ := PySem.W.any_some hh
  have hx : s.heap.get? x = some ⟨.ref C, some dx, .plain, #[]⟩ := I.obj
  refine wpAny_bind (wpAny_pure (wpAny_bind (wpAny_bind (wpAny_loadPart hx (wpAny_bind (PySem.W.Looks.here (s := { s with toks := s.toks + 1 }) (PySem.W.looks_clsIn X hc) ?_))))))
  rw [hd']
  refine wpAny_pure (a := some dx) (wpAny_bind (wpAny_pure (wpAny_bind ?_)))
  refine wpAny_nsSet1 (s := { s with toks := s.toks + 1 }) I.ns fun h' hn2 hs2 => ?_
  obtain ⟨oD, esD, epD, hoD, hdD, hcD⟩ := hn2.count (PySem.Within.cons name v hw)
  refine wpAny_bind (wpAny_lookBehind hoD (by rw [hdD]; exact pastItsLine_dict (Nat.le_trans hcD (by rw [List.length_cons]; omega))) ?_)
  exact wpAny_pure (h _ ⟨(hs2.2 _ (Ne.symm I.ne)).trans I.obj, hn2, I.ne⟩ hs2)

/-- C(..): the dict at the heap's end, the instance behind it; then its __init__ -/
theorem make_map {R : Result → Shared → Prop} {vs : List Value} {kw : List (Str × Value)} (X : K.In s.heap) (hm : PySem.W.makesIn K C = true)
    (hi : PySem.W.findIn K (.ref C) "__init__" = some (some (.ref f))) (hf : PySem.W.typeIn K (.ref f) = some (.type "function"))
    (h : codeAny (model prog w) (A.under (.builtin "type.__call__" ⟨.ref C :: vs, kw⟩)) (.call (.ref f) ⟨.ref (s.heap.objs.size + 1) :: vs, kw⟩) (PySem.W.InitBack (s.heap.objs.size + 1) R)
      { s with heap := (s.heap.push PySem.W.emptyDict).push (PySem.W.instObj C s.heap.objs.size) }) :
    codeAny (model prog w) A (.call (.ref C) ⟨vs, kw⟩) R s := by
  obtain ⟨hh, g, d, t, os⟩ := s
  exact PySem.W.make_core (PySem.W.makes_of X hm) (PySem.W.looks_findIn X hi) (fun self => PySem.W.bind_fn X self hf) (.inl rfl) h
end

/-! ### the attributes as a list of pairs -/
def putF (f : Str) (v : V) : List (Str × V) → List (Str × V)
  | [] => [(f, v)]
  | (g, x) :: r => if g = f then (g, v) :: r else (g, x) :: putF f v r
theorem lookup_putF (f g : Str) (v : V) : ∀ fs : List (Str × V), (putF f v fs).lookup g = if g = f then some v else fs.lookup g
  | [] => by
    show List.lookup g [(f, v)] = _
    by_cases h : g = f
    · have hb : (g == f) = true := beq_iff_eq.mpr h
      simp only [List.lookup, hb, if_pos h]
    · have hb : (g == f) = false := beq_eq_false_iff_ne.mpr h
      simp only [List.lookup, hb, if_neg h]
  | (k, x) :: r => by
    have ih := lookup_putF f g v r
    rw [show putF f v ((k, x) :: r) = (if k = f then (k, v) :: r else (k, x) :: putF f v r) from rfl]
    by_cases hk : k = f
    · rw [if_pos hk]
      by_cases h : g = k
      · have hb : (g == k) = true := beq_iff_eq.mpr h
        simp only [List.lookup, hb, if_pos (h.trans hk)]
      · have hb : (g == k) = false := beq_eq_false_iff_ne.mpr h
        simp only [List.lookup, hb, if_neg (fun e : g = f => h (e.trans hk.symm))]
    · rw [if_neg hk]
      by_cases h : g = k
      · have hb : (g == k) = true := beq_iff_eq.mpr h
        simp only [List.lookup, hb, if_neg (fun e : g = f => hk (h.symm.trans e))]
      · have hb : (g == k) = false := beq_eq_false_iff_ne.mpr h
        simp only [List.lookup, hb]
        exact ih
theorem keys_putF (f : Str) (v : V) : ∀ fs : List (Str × V), f ∈ (putF f v fs).map (·.1) ∧ ∀ g, g ∈ fs.map (·.1) → g ∈ (putF f v fs).map (·.1)
  | [] => ⟨by simp [putF], fun g h => by simp at h⟩
  | (k, x) :: r => by
    obtain ⟨i1, i2⟩ := keys_putF f v r
    rw [show putF f v ((k, x) :: r) = (if k = f then (k, v) :: r else (k, x) :: putF f v r) from rfl]
    by_cases hk : k = f
    · rw [if_pos hk]
      subst hk
      exact ⟨by simp, fun g h => by simpa using h⟩
    · rw [if_neg hk]
      refine ⟨?_, fun g h => ?_⟩
      · rw [List.map_cons]
        exact List.mem_cons_of_mem _ i1
      · rw [List.map_cons] at h ⊢
        rcases List.mem_cons.mp h with e | e
        · exact List.mem_cons.mpr (.inl e)
        · exact List.mem_cons_of_mem _ (i2 g e)
theorem length_putF (f : Str) (v : V) : ∀ fs : List (Str × V), (putF f v fs).length ≤ fs.length + 1
  | [] => by simp [putF]
  | (k, x) :: r => by
    have ih := length_putF f v r
    rw [show putF f v ((k, x) :: r) = (if k = f then (k, v) :: r else (k, x) :: putF f v r) from rfl]
    by_cases hk : k = f
    · rw [if_pos hk, List.length_cons, List.length_cons]; omega
    · rw [if_neg hk, List.length_cons, List.length_cons]; omega

theorem RelO.some_of {v : V} {o : Option Value} (r : RelO (some v) o) : ∃ u, o = some u ∧ RelV v u := by
  cases o with
  | none => exact (show False from r).elim
  | some u => exact ⟨u, rfl, r⟩
theorem RelO.none_of {o : Option Value} (r : RelO none o) : o = none := by
  cases o with
  | none => rfl
  | some u => exact (show False from r).elim
theorem handed_of {v : V} {u : Value} (r : RelV v u) : PySem.W.handedIn u = true := by
  cases v with
  | non => cases (show u = Value.none from r); rfl
  | bl b => cases (show u = Value.bool b from r); rfl
  | int i => obtain ⟨t, e⟩ := (show ∃ t, u = Value.int i t from r); cases e; rfl
  | str x => obtain ⟨t, e⟩ := (show ∃ t, u = Value.str x t from r); cases e; rfl
  | byt b => obtain ⟨t, e⟩ := (show ∃ t, u = Value.bytes b t from r); cases e; rfl
  | flt b => obtain ⟨t, e⟩ := (show ∃ t, u = Value.float b t from r); cases e; rfl
  | ref a => cases (show u = Value.ref a from r); rfl
  | ty n => cases (show u = Value.type n from r); rfl

section
variable {P : Program} {w : World} {H H' : Hp} {h h' : Heap} {a C dx : Addr} {fs fs' : List (Str × V)}
theorem ins_get (hok : HOk P w H h) (e : H a = some (.ins C dx fs)) : ∃ mA, ObjM h a dx C mA ∧ (∀ f, RelO (fs.lookup f) (mA f)) ∧ PySem.Within mA (fs.map (·.1)) ∧ fs.length ≤ 1000 ∧ H dx = some (.own a) := by
  obtain ⟨d, z, ne, ob, mA, n, r, q⟩ := (show ObjOk P w H h a (.ins C dx fs) from hok a _ e)
  exact ⟨mA, ⟨ob, n, ne⟩, r, q, z, d⟩
end

/-! ### what of the text a class must have -/
structure Cls (K : PySem.W.Frag) (C : Addr) : Prop where
  pg : PySem.W.plainGet K C Str.empty = true
  hd : PySem.W.hasDictIn K C = true
  po : PySem.W.plainOver K C = true
  sa : PySem.W.findIn K (.ref C) "__setattr__" = some (some (.builtin "object.__setattr__"))
theorem Cls.get {K : PySem.W.Frag} {C : Addr} (c : Cls K C) (f : Str) : PySem.W.plainGet K C f = true := c.pg
/-- no class of it has the name -/
def NoAttr (K : PySem.W.Frag) (C : Addr) (f : Str) : Prop := PySem.W.findIn K (.ref C) f = some none
theorem NoAttr.taker {K : PySem.W.Frag} {C : Addr} {f : Str} (n : NoAttr K C f) : PySem.W.takerIn K C f = some none := by
  unfold PySem.W.takerIn
  rw [show PySem.W.findIn K (.ref C) f = some none from n]
  rfl
/-- a method: a plain def of the class or of one above it -/
structure Meth (K : PySem.W.Frag) (C : Addr) (m : Str) (f : Addr) : Prop where
  at_ : PySem.W.findIn K (.ref C) m = some (some (.ref f))
  fn : PySem.W.isFn K (.ref f) = true
  kp : PySem.W.keepIn K (.ref f) = true

section
variable {X : Cx} {pins : List (Addr × Obj)} {σ : St} {H : Hp} {s : Shared} {a C dx : Addr} {fs : List (Str × V)} {f : Str} {v : V} {A : Around} {E : Value → Shared → Prop}

theorem getattr_ok {b : Bool} {Q : Value → Shared → Prop} (I : Inv X pins σ H s) (e : H a = some (.ins C dx fs)) (c : Cls X.K C) (n : NoAttr X.K C f) (l : fs.lookup f = some v)
    (h : ∀ u s', Inv X pins σ H s' → RelV v u → Q u s') : wpAny (model X.prog X.w) A (getAttr (.ref a) f b) Q E s := by
  obtain ⟨mA, O, r, _, _, _⟩ := ins_get I.hok e
  obtain ⟨u, hu, ru⟩ := RelO.some_of (v := v) (o := mA f) (by rw [← l]; exact r f)
  exact get_map I.kIn O (c.get f) c.hd n hu (handed_of ru) (h u _ (I.tok _) ru)

theorem getmeth_ok {m : Str} {g : Addr} {pl : Sem Bool} {Q : Value × List Value → Shared → Prop} (I : Inv X pins σ H s) (e : H a = some (.ins C dx fs)) (c : Cls X.K C) (k : Meth X.K C m g) (l : fs.lookup m = none)
    (h : Q (.ref g, [.ref a]) s) : wpAny (model X.prog X.w) A (getMethod (.ref a) m pl) Q E s := by
  obtain ⟨mA, O, r, _, _, _⟩ := ins_get I.hok e
  have hn : mA m = none := RelO.none_of (by rw [← l]; exact r m)
  exact get_meth I.kIn O (c.get m) k.at_ k.fn hn h

theorem setattr_ok {y : V} {u : Value} {Q : Unit → Shared → Prop} (I : Inv X pins σ H s) (e : H a = some (.ins C dx fs)) (c : Cls X.K C) (n : NoAttr X.K C f) (hl : fs.length < 1000) (ry : RelV y u)
    (h : ∀ s', Inv X pins σ (upd H a (.ins C dx (putF f y fs))) s' → Q () s') : wpAny (model X.prog X.w) A (setAttr (.ref a) f u) Q E s := by
  obtain ⟨mA, O, r, wi, _, ho⟩ := ins_get I.hok e
  have hz : (fs.map (·.1)).length ≤ sizeLine := by rw [List.length_map, sizeLine_eq]; omega
  refine set_map I.kIn O c.sa c.po n.taker c.hd wi hz fun h' O' sb => h _ ?_
  have hd : ∃ o, h'.get? dx = some o := let ⟨o, _, _, e', _⟩ := O'.ns; ⟨o, e'⟩
  refine I.write (x := a) (e := dx) (by rw [e]; exact True.intro) (.inr ho) (fun b q hb z => (sb.2 b hb).trans z) hd ?_
  refine ⟨by rw [upd_ne O.ne]; exact ho, ?_, O.ne, O'.obj, _, O'.ns, fun g => ?_, fun g hg => ?_⟩
  · have := length_putF f y fs; omega
  · show RelO ((putF f y fs).lookup g) (if g = f then some u else mA g)
    rw [lookup_putF]
    by_cases q : g = f
    · rw [if_pos q, if_pos q]; exact ry
    · rw [if_neg q, if_neg q]; exact r g
  · by_cases q : g = f
    · rw [q]; exact (keys_putF f y fs).1
    · refine (keys_putF f y fs).2 g (wi g fun z => hg ?_)
      show (if g = f then some u else mA g) = none
      rw [if_neg q]; exact z

/-- a new instance, tracked, without attributes -/
theorem Inv.made (I : Inv X pins σ H s) : Inv X pins σ (upd (upd H s.heap.objs.size (.own (s.heap.objs.size + 1))) (s.heap.objs.size + 1) (.ins C s.heap.objs.size []))
    { s with heap := (s.heap.push PySem.W.emptyDict).push (PySem.W.instObj C s.heap.objs.size) } := by
  have e1 : (s.heap.push PySem.W.emptyDict).get? s.heap.objs.size = some PySem.W.emptyDict := Heap.get?_push_size s.heap rfl
  have e2 : ((s.heap.push PySem.W.emptyDict).push (PySem.W.instObj C s.heap.objs.size)).get? (s.heap.objs.size + 1) = some (PySem.W.instObj C s.heap.objs.size) := by
    have := Heap.get?_push_size (s.heap.push PySem.W.emptyDict) (o := PySem.W.instObj C s.heap.objs.size) rfl
    rwa [Heap.size_push] at this
  have e3 : (s.heap.push PySem.W.emptyDict).Ns s.heap.objs.size (fun _ => none) := ⟨PySem.W.emptyDict, #[], _, e1, rfl, (fun e he => absurd he (by simp)), fun _ => rfl⟩
  have I1 := I.laid (a := s.heap.objs.size) (o := .own (s.heap.objs.size + 1)) (h' := s.heap.push PySem.W.emptyDict) (t' := s.toks) (fun b u q => Heap.get?_push_of_some _ q) (Nat.le_refl _) ⟨_, e1⟩
  refine I1.laid (a := s.heap.objs.size + 1) (o := .ins C s.heap.objs.size []) (t' := s.toks) (fun b u q => Heap.get?_push_of_some _ q) (Nat.le_of_eq (Heap.size_push _ _)) ?_
  have ne : s.heap.objs.size ≠ s.heap.objs.size + 1 := Nat.ne_of_lt (Nat.lt_succ_self _)
  refine ⟨by rw [upd_ne ne, upd_same], Nat.zero_le _, ne, e2, fun _ => none, (Heap.Ns1.of_empty e3).at fun o q => Heap.get?_push_of_some _ q, fun _ => True.intro, fun y hy => absurd rfl hy⟩

/-- e.f where nothing but the object is asked: through attributeBase (super) and the last hold -/
theorem attr_of {prog : Program} {w : World} {env : Env} {e : Expr} {f : Str} {pos : Pos} {s : Shared} {Q : Value → Shared → Prop} (hb : attributeBase e f env (eval e env) = eval e env)
    (h : wpAny (model prog w) A (eval e env) (fun o s₁ => wpAny (model prog w) A (getAttr o f true) Q E s₁) E s) : wpAny (model prog w) A (eval (.Attribute e f pos) env) Q E s :=
  Attribute_any_ h (by rw [arm_eval_Attribute, hb])
end

/-! ### readings and rules -/
/-- e.f, an attribute of the instance -/
def tFld (K : PySem.W.Frag) (ta : TE) (f : Str) : TE := fun σ H Q => ta σ H fun x H1 => ∃ a C dx fs v, x = .ref a ∧ H1 a = some (.ins C dx fs) ∧ Cls K C ∧ NoAttr K C f ∧ fs.lookup f = some v ∧ Q v H1
/-- e.f = value -/
def sFld (K : PySem.W.Frag) (ta tv : TE) (f : Str) : TS := fun D σ H => tv σ H fun y H1 => ta σ H1 fun x H2 => ∃ a C dx fs, x = .ref a ∧ H2 a = some (.ins C dx fs) ∧ Cls K C ∧ NoAttr K C f ∧ fs.length < 1000 ∧
  D.nx σ (upd H2 a (.ins C dx (putF f y fs)))
/-- an augmented operator on two values -/
def InOp (X : Cx) (op : Operator) (rd : V → V → Hp → VK → Prop) : Prop :=
  ∀ (pins : List (Addr × Obj)) (s : Shared) (σ : St) (H : Hp) (x y : V) (u v : Value) (Q : VK), Inv X pins σ H s → RelV x u → RelV y v → rd x y H Q → wpAny (model X.prog X.w) X.A (inplaceOp op u v) (EP X pins σ Q) X.xe s
/-- e.f op= value -/
def sFldAug (K : PySem.W.Frag) (ta tv : TE) (rd : V → V → Hp → VK → Prop) (f : Str) : TS := fun D σ H => ta σ H fun x H1 => ∃ a C dx fs v, x = .ref a ∧ H1 a = some (.ins C dx fs) ∧ Cls K C ∧ NoAttr K C f ∧ fs.lookup f = some v ∧
  tv σ H1 fun y H2 => rd v y H2 fun z H3 => ∃ dx' fs', H3 a = some (.ins C dx' fs') ∧ fs'.length < 1000 ∧ D.nx σ (upd H3 a (.ins C dx' (putF f z fs')))

section
variable {X : Cx} {o e value : Expr} {f : Str} {pos pos' tpos : Pos} {ta tv : TE}
theorem pe_fld (he : PE X e ta) (hb : attributeBase e f X.env (eval e X.env) = eval e X.env) : PE X (.Attribute e f pos) (tFld X.K ta f) := by
  intro pins s σ H Q I h
  refine attr_of hb (thn (he pins s σ H _ I h) fun u s1 ⟨x, H1, I1, rx, a, C, dx, fs, v, ex, ea, c, n, l, q⟩ => ?_)
  subst ex
  obtain rfl : u = Value.ref a := rx
  exact getattr_ok I1 ea c n l fun u' s2 I2 ru => ⟨v, H1, I2, ru, q⟩
theorem ps_fld (ha : PE X o ta) (hv : PE X value tv) (hs : swapsWith value (some (.Attribute o f pos')) pos.line X.env = pure false) : PS X (.Assign [.Attribute o f pos'] value pos) (sFld X.K ta tv f) := by
  intro pins s σ H D I h
  refine plainObj_wpAny_Assign_Attribute (thn (hv pins s σ H _ I h) fun u s1 ⟨y, H1, I1, ry, q⟩ => thn (ha pins s1 σ H1 _ I1 q) fun ov s2 ⟨x, H2, I2, rx, a, C, dx, fs, ex, ea, c, n, l, q2⟩ => ?_) hs
  subst ex
  obtain rfl : ov = Value.ref a := rx
  exact setattr_ok I2 ea c n l ry fun s3 I3 => ⟨σ, _, I3, q2⟩
theorem ps_fldaug {op : Operator} {rd : V → V → Hp → VK → Prop} (ha : PE X o ta) (hv : PE X value tv) (hop : InOp X op rd) : PS X (.AugAssign (.Attribute o f tpos) op value pos) (sFldAug X.K ta tv rd f) := by
  intro pins s σ H D I h
  refine wpAny_AugAssign_AttributeAny (thn (ha pins s σ H _ I h) fun ov s1 ⟨x, H1, I1, rx, a, C, dx, fs, v, ex, ea, c, n, l, q⟩ => ?_)
  subst ex
  obtain rfl : ov = Value.ref a := rx
  refine getattr_ok I1 ea c n l fun u s2 I2 ru => thn (hv pins s2 σ H1 _ I2 q) fun w3 s3 ⟨y, H2, I3, ry, q3⟩ => thn (hop pins s3 σ H2 v y u w3 _ I3 ru ry q3) fun w4 s4 ⟨z, H3, I4, rz, dx', fs', ea', l', q4⟩ => ?_
  exact setattr_ok I4 ea' c n l' rz fun s5 I5 => ⟨σ, _, I5, q4⟩
def rAdd : V → V → Hp → VK → Prop := fun x y H Q => ∃ i j, x = .int i ∧ y = .int j ∧ Q (.int (i + j)) H
def rSub : V → V → Hp → VK → Prop := fun x y H Q => ∃ i j, x = .int i ∧ y = .int j ∧ Q (.int (i - j)) H
theorem in_add : InOp X .Add rAdd := by
  rintro pins s σ H x y u v Q I rx ry ⟨i, j, rfl, rfl, q⟩
  obtain ⟨t, rfl⟩ := (show ∃ t, u = Value.int i t from rx)
  obtain ⟨t', rfl⟩ := (show ∃ t', v = Value.int j t' from ry)
  exact PyProof.Rows.iadd_int ⟨.int (i + j), H, I.tok _, ⟨_, rfl⟩, q⟩
theorem in_sub : InOp X .Sub rSub := by
  rintro pins s σ H x y u v Q I rx ry ⟨i, j, rfl, rfl, q⟩
  obtain ⟨t, rfl⟩ := (show ∃ t, u = Value.int i t from rx)
  obtain ⟨t', rfl⟩ := (show ∃ t', v = Value.int j t' from ry)
  exact PyProof.Rows.isub_int ⟨.int (i - j), H, I.tok _, ⟨_, rfl⟩, q⟩

end

/-! ### isinstance -/
section
variable {X : Cx} {pins : List (Addr × Obj)} {σ : St} {H : Hp} {s : Shared} {A : Around} {E : Value → Shared → Prop} {Q : Value → Shared → Prop} {c : Value} {b : Bool}
end
end L2

namespace L2
open PySem PySem.Spec PyProof.Rows

/-! ### room -/
structure Room (k : Nat) (A : Around) : Prop where
  hd : A.handled = none
  dp : A.depth + 3 * k + 5 < recursionLimit
  un : A.units + 16 * k + 200 < cLine
theorem Room.mono {j k : Nat} {A : Around} (r : Room k A) (h : j ≤ k) : Room j A := ⟨r.hd, by have := r.dp; omega, by have := r.un; omega⟩
theorem Room.deeper {k : Nat} {A : Around} (r : Room (k + 1) A) (env : Env) : Room k (A.deeper env) :=
  ⟨r.hd, by have := r.dp; show A.depth + 1 + 3 * k + 5 < _; omega, by have := r.un; show A.units + 3 + 16 * k + 200 < _; omega⟩
theorem Room.in1 {k : Nat} {A : Around} (r : Room (k + 1) A) : Room k A.in1 :=
  ⟨r.hd, by have := r.dp; show A.depth + 3 * k + 5 < _; omega, by have := r.un; show A.units + 1 + 16 * k + 200 < _; omega⟩
theorem make_depth {A : Around} {C : Addr} {us : List Value} {kw : List (Str × Value)} : (A.under (.builtin "type.__call__" ⟨.ref C :: us, kw⟩)).depth = A.depth + 1 := by
  first | rfl | simp [Around.under, Code.weight, Code.isCreation, Code.isGuard, Code.isCaller, Code.frames, Code.isFrame, guardIds]
theorem make_units {A : Around} {C : Addr} {us : List Value} {kw : List (Str × Value)} : (A.under (.builtin "type.__call__" ⟨.ref C :: us, kw⟩)).units = A.units + 1 := by
  first | rfl | simp [Around.under, Code.cUnits, Code.frames, Code.isFrame]
theorem Room.make {k : Nat} {A : Around} (r : Room (k + 1) A) (C : Addr) (us : List Value) (kw : List (Str × Value)) : Room k (A.under (.builtin "type.__call__" ⟨.ref C :: us, kw⟩)) :=
  ⟨r.hd, by have := r.dp; rw [make_depth]; omega, by have := r.un; rw [make_units]; omega⟩
theorem Room.depth {k : Nat} {A : Around} (r : Room k A) : A.depth < recursionLimit := by have := r.dp; omega
theorem Room.units {k : Nat} {A : Around} (r : Room k A) : A.units + 64 < cLine := by have := r.un; omega
/-! ### argument lists and displays -/
def tNil : TA := fun _ H Q => Q [] H
def tCons (ta : TE) (tr : TA) : TA := fun σ H Q => ta σ H fun x H1 => tr σ H1 fun xs H2 => Q (x :: xs) H2
section
variable {X : Cx} {e : Expr} {es : List Expr} {te : TE} {t : TA} {pos : Pos}
theorem pa_nil : PA X [] tNil := fun _ _ _ _ H Q I h => Calls.spliced_nil ⟨[], H, I, .nil, h⟩
theorem pa_cons (ha : PE X e te) (hr : PA X es t) (hs : starEach (e :: es) X.env = (false, eval e X.env) :: starEach es X.env := by rfl) : PA X (e :: es) (tCons te t) := by
  intro pos pins s σ H Q I h
  rw [hs]
  show wpAny _ _ (spliced ((false, eval e X.env) :: backTo pos (starEach es X.env))) _ _ s
  refine Calls.spliced_cons (thn (ha pins s σ H _ I h) fun u s1 ⟨x, H1, I1, r1, q1⟩ => ?_)
  exact thn (hr pos pins s1 σ H1 _ I1 q1) fun us s2 ⟨xs, H2, I2, r2, q2⟩ => ⟨x :: xs, H2, I2, .cons r1 r2, q2⟩

/-- a tuple, a list of written items -/
def tTup (t : TA) : TE := fun σ H Q => t σ H fun xs H1 => xs.length ≤ sizeLine ∧ ∀ p, H1 p = none → Q (.ref p) (upd H1 p (.tup xs))
def tLst (t : TA) : TE := fun σ H Q => t σ H fun xs H1 => xs.length ≤ sizeLine ∧ ∀ p, H1 p = none → Q (.ref p) (upd H1 p (.lst xs))
theorem pe_tup {x1} (h : PA X es t) : PE X (.Tuple es x1 pos) (tTup t) := by
  intro pins s σ H Q I hq
  refine wpAny_Tuple_spliced (thn (h pos pins s σ H _ I hq) fun us s1 ⟨xs, H1, I1, r, z, q⟩ => ⟨by rw [← r.length]; exact z, ?_⟩)
  have hf : H1 s1.heap.objs.size = none := I1.hok.fresh (Nat.le_refl _)
  refine ⟨.ref s1.heap.objs.size, upd H1 s1.heap.objs.size (.tup xs), I1.laid (t' := s1.toks) (fun b u e => Heap.get?_push_of_some _ e) (Nat.le_refl _) ?_, rfl, q _ hf⟩
  exact ⟨z, us, r, ⟨_, Heap.get?_push_size _ rfl, rfl, _, rfl⟩⟩
theorem pe_lst (h : PA X es t) : PE X (.List es pos) (tLst t) := by
  intro pins s σ H Q I hq
  refine wpAny_List_spliced (thn (h pos pins s σ H _ I hq) fun us s1 ⟨xs, H1, I1, r, z, q⟩ => ⟨by rw [← r.length]; exact z, ?_⟩)
  have hf : H1 s1.heap.objs.size = none := I1.hok.fresh (Nat.le_refl _)
  refine ⟨.ref s1.heap.objs.size, upd H1 s1.heap.objs.size (.lst xs), I1.laid (t' := s1.toks) (fun b u e => Heap.get?_push_of_some _ e) (Nat.le_refl _) ?_, rfl, q _ hf⟩
  exact ⟨z, us, 0, r, Heap.get?_push_size _ rfl⟩
end

/-! ### what a def promises -/
/-- a def's promise: the bound arguments in the parameters' order, the heap, the wanted end, the wanted exception -/
abbrev Sp := List V → Hp → VK → XK → Prop
/-- how an exception lies behind a call (file 08 gives it): the callers' frames, abstract heap and state ahead of the call, the wish, the exception, the state -/
abbrev CXT := List Env → Hp → Shared → XK → Value → Shared → Prop

/-- the state at a call -/
structure Env0 (P : Program) (w : World) (K : PySem.W.Frag) (mg : Str → Option Value) (base : Heap) (A : Around) (outer : List Env) (s : Shared) (H : Hp) : Prop where
  frames : A.frames = some outer
  mod : Mod K mg base
  bs : ∀ b o, base.get? b = some o → s.heap.get? b = some o ∧ H b = none
  bsz : base.objs.size ≤ s.heap.objs.size
  funs : s.heap.FunFrames base outer
  frf : ∀ b ∈ frs outer, H b = none
  hok : HOk P w H s.heap
  bare : AllBare s.gens
/-- a call's end -/
def CE (outer : List Env) (P : Program) (w : World) (H : Hp) (s : Shared) (Q : VK) (u : Value) (s' : Shared) : Prop :=
  ∃ v H', s'.os = s.os ∧ AllBare s'.gens ∧ Un (frs outer) [] H H' s.heap s'.heap ∧ HOk P w H' s'.heap ∧ RelV v u ∧ Q v H'
def CR (CX : CXT) (outer : List Env) (P : Program) (w : World) (H : Hp) (s : Shared) (Q : VK) (E : XK) (r : Result) (s' : Shared) : Prop :=
  match r with
  | .ok (.ret u) => CE outer P w H s Q u s'
  | .ok _ => False
  | .error e => CX outer H s E e s'
structure FnOk (P : Program) (w : World) (K : PySem.W.Frag) (mg : Str → Option Value) (base : Heap) (CX : CXT) (k : Nat) (f : Addr) (fd : FuncData) (ps : List Str) (sp : Sp) : Prop where
  len : ∀ vs H Q E, sp vs H Q E → vs.length = ps.length
  run : ∀ (A : Around) (outer : List Env) (s : Shared) (H : Hp) (args : Args) (us : List Value) (vs : List V) (Q : VK) (E : XK), Room k A → Env0 P w K mg base A outer s H → BindsTo s fd args (ps.zip us) → Vals vs us → sp vs H Q E →
    codeAny (model P w) A (.call (.ref f) args) (CR CX outer P w H s Q E) s
theorem FnOk.mono {P : Program} {w : World} {K : PySem.W.Frag} {mg : Str → Option Value} {base : Heap} {CX : CXT} {j k : Nat} {f : Addr} {fd : FuncData} {ps : List Str} {sp : Sp} (F : FnOk P w K mg base CX j f fd ps sp) (h : j ≤ k) :
    FnOk P w K mg base CX k f fd ps sp := ⟨F.len, fun A outer s H args us vs Q E hr => F.run A outer s H args us vs Q E (hr.mono h)⟩
theorem Env0.make {P : Program} {w : World} {K : PySem.W.Frag} {mg : Str → Option Value} {base : Heap} {A : Around} {outer : List Env} {s : Shared} {H : Hp} (e : Env0 P w K mg base A outer s H) (C : Addr) (us : List Value) (kw : List (Str × Value)) :
    Env0 P w K mg base (A.under (.builtin "type.__call__" ⟨.ref C :: us, kw⟩)) outer s H := ⟨by first | exact e.frames | (simpa [Around.under, Code.envs, Code.isFrame, pushEnvs] using e.frames), e.mod, e.bs, e.bsz, e.funs, e.frf, e.hok, e.bare⟩
theorem Env0.in1 {P : Program} {w : World} {K : PySem.W.Frag} {mg : Str → Option Value} {base : Heap} {A : Around} {outer : List Env} {s : Shared} {H : Hp} (e : Env0 P w K mg base A outer s H) :
    Env0 P w K mg base A.in1 outer s H := ⟨e.frames, e.mod, e.bs, e.bsz, e.funs, e.frf, e.hok, e.bare⟩

section
variable {X : Cx} {pins : List (Addr × Obj)} {σ : St} {H : Hp} {s s' : Shared}
/-- from a body: what a callee wants -/
theorem Inv.env0 (I : Inv X pins σ H s) : Env0 X.prog X.w X.K X.mg X.base X.A X.stack s H :=
  ⟨I.ok.frames, I.ok.mod, I.bs, Nat.le_trans I.ok.bsz I.sz, I.stack, I.stkFree, I.hok, I.bare⟩
/-- behind a call -/
theorem Inv.after {Q : VK} {u : Value} (I : Inv X pins σ H s) (h : CE X.stack X.prog X.w H s Q u s') : EP X pins σ Q u s' := by
  obtain ⟨v, H', os, bare, un, hok, r, q⟩ := h
  obtain ⟨hh, g, d, t, os'⟩ := s'
  obtain rfl : os' = s.os := os
  exact ⟨v, H', I.call (h' := hh) (g' := g) (d' := d) (t' := t) (ch := []) un hok bare (fun b z => absurd z (by simp)), r, q⟩
end

/-! ### calls -/
/-- f(..): the written arguments, then the defaults dvs; E: what is wanted of an exception -/
def tCall (sp : Sp) (dvs : List V) (E : XK) (t : TA) : TE := fun σ H Q => t σ H fun vs H1 => sp (vs ++ dvs) H1 Q E
/-- o.m(..) of an instance of the class at C -/
def tMeth (C : Addr) (m : Str) (sp : Sp) (dvs : List V) (E : XK) (ta : TE) (t : TA) : TE := fun σ H Q => ta σ H fun x H1 => ∃ a dx fs, x = .ref a ∧ H1 a = some (.ins C dx fs) ∧ fs.lookup m = none ∧
  t σ H1 fun vs H2 => sp (x :: (vs ++ dvs)) H2 Q E
/-- C(..): a new instance and its dict, then __init__ -/
def tMake (C : Addr) (sp : Sp) (dvs : List V) (E : XK) (t : TA) : TE := fun σ H Q => t σ H fun vs H1 => ∀ x dx, H1 x = none → H1 dx = none → dx ≠ x →
  sp (.ref x :: (vs ++ dvs)) (upd (upd H1 dx (.own x)) x (.ins C dx [])) (fun v H2 => v = .non ∧ Q (.ref x) H2) E

/-- how the parameters are bound: us the positional arguments, kw the keywords' values by name, ds the defaults that fill up -/
def Binds (K : PySem.W.Frag) (fd : FuncData) (ps : List Str) (ds : List Value) : Prop :=
  ∀ (s : Shared) (us : List Value), K.In s.heap → (us ++ ds).length = ps.length → BindsTo s fd ⟨us, []⟩ (ps.zip (us ++ ds))
/-- every parameter is given -/
theorem Binds.all {K : PySem.W.Frag} {fd : FuncData} {ps : List Str} (h : ∀ us : List Value, us.length = ps.length → bindArgs fd ⟨us, []⟩ = pure (ps.zip us)) : Binds K fd ps [] := fun s us _ hl => by
  rw [List.append_nil] at hl ⊢
  exact .of_eq (h us hl)

/-- an exception of a callee reaches what this body wants of exceptions -/
def Passes (CX : CXT) (X : Cx) (E : XK) : Prop := ∀ (pins : List (Addr × Obj)) (σ : St) (H : Hp) (s : Shared) (e : Value) (s' : Shared), Inv X pins σ H s → CX X.stack H s E e s' → X.xe e s'

section
variable {X : Cx} {CX : CXT} {k : Nat} {f C : Addr} {fd : FuncData} {ps : List Str} {sp : Sp} {dvs : List V} {ds : List Value} {E : XK} {x m : Str} {p pos apos : Pos} {e o : Expr} {es : List Expr} {ta : TE} {t : TA}

/-- the callee runs -/
theorem run_fn {pins : List (Addr × Obj)} {σ : St} {H : Hp} {s : Shared} {Q : VK} {us : List Value} {vs : List V} (F : FnOk X.prog X.w X.K X.mg X.base CX k f fd ps sp) (hr : Room k X.A) (hb : Binds X.K fd ps ds) (hd : Vals dvs ds) (hx : Passes CX X E)
    (I : Inv X pins σ H s) (r : Vals vs us) (h : sp (vs ++ dvs) H Q E) : wpAny (model X.prog X.w) X.A (call (.ref f) us) (EP X pins σ Q) X.xe s := by
  have r2 : Vals (vs ++ dvs) (us ++ ds) := r.append hd
  have hl : (us ++ ds).length = ps.length := by rw [← r2.length]; exact F.len _ _ _ _ h
  refine wpAny_call (codeAny_mono (F.run X.A X.stack s H ⟨us, []⟩ (us ++ ds) (vs ++ dvs) Q E hr I.env0 (hb s us I.kIn hl) r2 h) fun r s' hq => ?_)
  cases r with
  | error e => exact hx pins σ H s e s' I hq
  | ok fl =>
    cases fl with
    | ret u => exact I.after hq
    | next => exact False.elim hq
    | brk => exact False.elim hq
    | cont => exact False.elim hq

theorem pe_call (F : FnOk X.prog X.w X.K X.mg X.base CX k f fd ps sp) (hr : Room k X.A) (hg : Gl X x) (hm : X.mg x = some (.ref f)) (hk : PySem.W.keepIn X.K (.ref f) = true) (hb : Binds X.K fd ps ds) (hd : Vals dvs ds) (hx : Passes CX X E)
    (ha : PA X (e :: es) t) (hdb : (x == ("__debug__" : Str)) = false := by decide) (he : starEach (e :: es) X.env = (false, eval e X.env) :: starEach es X.env := by rfl) (hpl : (backTo pos (starEach es X.env)).any (·.1) = false := by rfl) :
    PE X (.Call (.Name x p) (e :: es) [] pos) (tCall sp dvs E t) := by
  intro pins s σ H Q I h
  refine wpAny_Call_Name_kw (ld_glob I hg hm ?_ hdb)
  refine PySem.W.callWith_K (h₀ := X.base) I.ok.mod.kin hk (thn (ha pos pins s σ H _ I h) fun us s1 ⟨vs, H1, I1, r, q⟩ => ⟨I1.kIn, ?_⟩) he hpl
  exact run_fn F hr hb hd hx I1 r q
/-- o.m(e, ..) -/
theorem pe_meth {pl : Sem Bool} (he : PE X o ta) (c : Cls X.K C) (hm : Meth X.K C m f) (F : FnOk X.prog X.w X.K X.mg X.base CX k f fd ps sp) (hr : Room k X.A) (hb : Binds X.K fd ps ds) (hd : Vals dvs ds) (hx : Passes CX X E) (ha : PA X (e :: es) t)
    (hst : starEach (e :: es) X.env = (false, eval e X.env) :: starEach es X.env := by rfl) (hpl : (backTo pos (starEach es X.env)).any (·.1) = false := by rfl)
    (ht : eval (.Call (.Attribute o m apos) (e :: es) [] pos) X.env = (do
      let ov ← eval o X.env
      standAt apos.atName
      let (f, first) ← holding [ov] (getMethod ov m pl)
      callWith pos f first (backTo pos (starEach (e :: es) X.env)) (backToKw pos (keywordEach [] X.env))) := by rfl) :
    PE X (.Call (.Attribute o m apos) (e :: es) [] pos) (tMeth C m sp dvs E ta t) := by
  intro pins s σ H Q I h
  refine PySem.W.methodCall_KW (pl := pl) (thn (he pins s σ H _ I h) fun u s1 ⟨x, H1, I1, rx, a, dx, fs, ex, ea, l, q⟩ => ?_) ht
  subst ex
  obtain rfl : u = Value.ref a := rx
  refine getmeth_ok I1 ea c hm l ?_
  refine PySem.W.callWith_K (first := [.ref a]) (h₀ := X.base) I.ok.mod.kin hm.kp (thn (ha pos pins s1 σ H1 _ I1 q) fun us s2 ⟨vs, H2, I2, r, q2⟩ => ⟨I2.kIn, ?_⟩) hst hpl
  exact run_fn (us := .ref a :: us) (vs := .ref a :: vs) F hr hb hd hx I2 (.cons rfl r) q2
/-- o.m() -/
theorem pe_meth0 {pl : Sem Bool} (he : PE X o ta) (c : Cls X.K C) (hm : Meth X.K C m f) (F : FnOk X.prog X.w X.K X.mg X.base CX k f fd ps sp) (hr : Room k X.A) (hb : Binds X.K fd ps ds) (hd : Vals dvs ds) (hx : Passes CX X E)
    (ht : eval (.Call (.Attribute o m apos) [] [] pos) X.env = (do
      let ov ← eval o X.env
      standAt apos.atName
      let (f, first) ← holding [ov] (getMethod ov m pl)
      callWith pos f first (backTo pos (starEach [] X.env)) (backToKw pos (keywordEach [] X.env))) := by rfl) :
    PE X (.Call (.Attribute o m apos) [] [] pos) (tMeth C m sp dvs E ta tNil) := by
  intro pins s σ H Q I h
  refine PySem.W.methodCall_KW (pl := pl) (thn (he pins s σ H _ I h) fun u s1 ⟨x, H1, I1, rx, a, dx, fs, ex, ea, l, q⟩ => ?_) ht
  subst ex
  obtain rfl : u = Value.ref a := rx
  refine getmeth_ok I1 ea c hm l ?_
  exact PySem.W.callWith_K0 (first := [.ref a]) I1.kIn hm.kp (run_fn (us := [.ref a]) (vs := [.ref a]) F hr hb hd hx I1 (.cons rfl .nil) q)

/-- what a class must have to be made -/
structure Mk (K : PySem.W.Frag) (C f : Addr) : Prop where
  makes : PySem.W.makesIn K C = true
  init : PySem.W.findIn K (.ref C) "__init__" = some (some (.ref f))
  fn : PySem.W.isFn K (.ref f) = true
  kp : PySem.W.keepIn K (.ref C) = true

theorem run_make {pins : List (Addr × Obj)} {σ : St} {H : Hp} {s : Shared} {Q : VK} {us : List Value} {vs : List V} (M : Mk X.K C f) (F : FnOk X.prog X.w X.K X.mg X.base CX k f fd ps sp) (hr : Room (k + 1) X.A) (hb : Binds X.K fd ps ds) (hd : Vals dvs ds)
    (hx : Passes CX X E) (I : Inv X pins σ H s) (r : Vals vs us)
    (h : ∀ x dx, H x = none → H dx = none → dx ≠ x → sp (.ref x :: (vs ++ dvs)) (upd (upd H dx (.own x)) x (.ins C dx [])) (fun v H2 => v = .non ∧ Q (.ref x) H2) E) :
    wpAny (model X.prog X.w) X.A (call (.ref C) us) (EP X pins σ Q) X.xe s := by
  have hq := h (s.heap.objs.size + 1) s.heap.objs.size (I.hok.fresh (Nat.le_succ _)) (I.hok.fresh (Nat.le_refl _)) (Nat.ne_of_lt (Nat.lt_succ_self _))
  have I2 := Inv.made (C := C) I
  have r2 : Vals (V.ref (s.heap.objs.size + 1) :: (vs ++ dvs)) (Value.ref (s.heap.objs.size + 1) :: (us ++ ds)) := .cons rfl (r.append hd)
  have hl : (Value.ref (s.heap.objs.size + 1) :: us ++ ds).length = ps.length := by
    have e := r2.length
    rw [F.len _ _ _ _ hq] at e
    exact e.symm
  refine wpAny_call (make_map (f := f) I.kIn M.makes M.init (beq_iff_eq.mp M.fn) (codeAny_mono (F.run _ X.stack _ _ ⟨Value.ref (s.heap.objs.size + 1) :: us, []⟩ (Value.ref (s.heap.objs.size + 1) :: (us ++ ds)) _ _ E (hr.make C us [])
    (I2.env0.make C us []) (hb _ (Value.ref (s.heap.objs.size + 1) :: us) I2.kIn hl) r2 hq) fun r s' hq' => ?_))
  cases r with
  | error e => exact hx pins σ _ _ e s' I2 hq'
  | ok fl =>
    cases fl with
    | ret u =>
      obtain ⟨v, H', I3, rv, ev, q3⟩ := I2.after hq'
      subst ev
      exact ⟨rv, ⟨V.ref (s.heap.objs.size + 1), H', I3, rfl, q3⟩⟩
    | next => exact False.elim hq'
    | brk => exact False.elim hq'
    | cont => exact False.elim hq'
theorem pe_make (M : Mk X.K C f) (F : FnOk X.prog X.w X.K X.mg X.base CX k f fd ps sp) (hr : Room (k + 1) X.A) (hg : Gl X x) (hm : X.mg x = some (.ref C)) (hb : Binds X.K fd ps ds) (hd : Vals dvs ds) (hx : Passes CX X E)
    (ha : PA X (e :: es) t) (hdb : (x == ("__debug__" : Str)) = false := by decide) (he : starEach (e :: es) X.env = (false, eval e X.env) :: starEach es X.env := by rfl) (hpl : (backTo pos (starEach es X.env)).any (·.1) = false := by rfl) :
    PE X (.Call (.Name x p) (e :: es) [] pos) (tMake C sp dvs E t) := by
  intro pins s σ H Q I h
  refine wpAny_Call_Name_kw (ld_glob I hg hm ?_ hdb)
  refine PySem.W.callWith_K (h₀ := X.base) I.ok.mod.kin M.kp (thn (ha pos pins s σ H _ I h) fun us s1 ⟨vs, H1, I1, r, q⟩ => ⟨I1.kIn, ?_⟩) he hpl
  exact run_make M F hr hb hd hx I1 r q
theorem pe_make0 (M : Mk X.K C f) (F : FnOk X.prog X.w X.K X.mg X.base CX k f fd ps sp) (hr : Room (k + 1) X.A) (hg : Gl X x) (hm : X.mg x = some (.ref C)) (hb : Binds X.K fd ps ds) (hd : Vals dvs ds) (hx : Passes CX X E)
    (hdb : (x == ("__debug__" : Str)) = false := by decide) : PE X (.Call (.Name x p) [] [] pos) (tMake C sp dvs E tNil) := by
  intro pins s σ H Q I h
  refine wpAny_Call_Name_kw (ld_glob I hg hm ?_ hdb)
  exact PySem.W.callWith_K0 I.kIn M.kp (run_make (us := []) M F hr hb hd hx I .nil h)
end

section
variable {X : Cx} {CX : CXT} {k : Nat} {f C : Addr} {fd : FuncData} {ps ks : List Str} {sp : Sp} {E : XK} {x m : Str} {p pos apos kpos : Pos} {e o : Expr} {es : List Expr} {kws : List Keyword} {te ta : TE} {t tk : TA} {nm : Option Str}
variable {g : List Value → List Value → List Value} {gV : List V → List V → List V}
end

/-! ### a def's body keeps its promise -/
/-- names: the parameters first -/
structure FnScope (N P : List Str) (sc : Scope) : Prop where
  kind : sc.kind = .function
  co : sc.isCoroutine = false
  gen : sc.isGenerator = false
  nd : N.Nodup
  pre : N.take P.length = P
  par : ∀ x ∈ P, sc.names.lookup x = some .local ∨ sc.names.lookup x = some .cell
  nofree : ∀ y ∈ sc.names, y.2 ≠ .free

theorem bindL_out {kindOf : Str → Option NameKind} {x : Str} : ∀ {binds : List (Str × Value)} {m : Str → Option Value}, (∀ v, (x, v) ∉ binds) → bindL kindOf binds m x = m x
  | [], _, _ => rfl
  | (n, v) :: r, m, h => by
    unfold bindL
    rw [bindL_out fun w hw => h w (List.mem_cons_of_mem _ hw)]
    split
    · have : x ≠ n := by rintro rfl; exact h v List.mem_cons_self
      simp [this]
    · rfl
theorem bindC_out {kindOf : Str → Option NameKind} {x : Str} : ∀ {binds : List (Str × Value)} {m : Str → Option Value}, (∀ v, (x, v) ∉ binds) → bindC kindOf binds m x = m x
  | [], _, _ => rfl
  | (n, v) :: r, m, h => by
    unfold bindC
    rw [bindC_out fun w hw => h w (List.mem_cons_of_mem _ hw)]
    split
    · rfl
    · have : x ≠ n := by rintro rfl; exact h v List.mem_cons_self
      simp [this]
theorem bindL_get {kindOf : Str → Option NameKind} {x : Str} {v : Value} : ∀ {P : List Str} {vs : List Value} {i : Nat} {m : Str → Option Value}, P.Nodup → P[i]? = some x → vs[i]? = some v → kindOf x = some .local →
    bindL kindOf (P.zip vs) m x = some v
  | [], _, _, _, _, h, _, _ => by simp at h
  | _ :: _, [], _, _, _, _, h, _ => by simp at h
  | p :: P, w :: vs, 0, m, nd, h1, h2, hk => by
    simp at h1 h2; subst h1; subst h2
    show bindL kindOf ((p, w) :: P.zip vs) m p = _
    unfold bindL
    rw [bindL_out fun v hv => (List.nodup_cons.mp nd).1 (List.of_mem_zip hv).1, if_pos hk]
    simp
  | p :: P, w :: vs, i + 1, m, nd, h1, h2, hk => by
    show bindL kindOf ((p, w) :: P.zip vs) m x = _
    unfold bindL
    exact bindL_get (i := i) (List.nodup_cons.mp nd).2 (by simpa using h1) (by simpa using h2) hk
theorem bindC_get {kindOf : Str → Option NameKind} {x : Str} {v : Value} : ∀ {P : List Str} {vs : List Value} {i : Nat} {m : Str → Option Value}, P.Nodup → P[i]? = some x → vs[i]? = some v → kindOf x ≠ some .local →
    bindC kindOf (P.zip vs) m x = some v
  | [], _, _, _, _, h, _, _ => by simp at h
  | _ :: _, [], _, _, _, _, h, _ => by simp at h
  | p :: P, w :: vs, 0, m, nd, h1, h2, hk => by
    simp at h1 h2; subst h1; subst h2
    show bindC kindOf ((p, w) :: P.zip vs) m p = _
    unfold bindC
    rw [bindC_out fun v hv => (List.nodup_cons.mp nd).1 (List.of_mem_zip hv).1, if_neg hk]
    simp
  | p :: P, w :: vs, i + 1, m, nd, h1, h2, hk => by
    show bindC kindOf ((p, w) :: P.zip vs) m x = _
    unfold bindC
    exact bindC_get (i := i) (List.nodup_cons.mp nd).2 (by simpa using h1) (by simpa using h2) hk

/-- the names' values at the entry -/
def start (N : List Str) (vs : List V) : St := vs.map some ++ List.replicate (N.length - vs.length) none

/-- the context of a def's body, at its entry; an exception leaves the frame, then lies as CX says -/
def cxOf (CX : CXT) (P : Program) (w : World) (K : PySem.W.Frag) (mg : Str → Option Value) (base : Heap) (N : List Str) (qual : Str) (scope : Scope) (f : Addr) (cd : Value) (A : Around) (outer : List Env) (s : Shared) (H : Hp) (E : XK) : Cx where
  prog := P
  w := w
  K := K
  mg := mg
  base := base
  A := A.deeper (envOfC qual scope s.heap.objs.size f cd)
  N := N
  s_0 := s
  H_0 := H
  env := envOfC qual scope s.heap.objs.size f cd
  outer := outer
  stack := envOfC qual scope s.heap.objs.size f cd :: outer
  ex := []
  calm := true
  fn := fun _ => true
  pn := []
  xe := fun e s' => wpAny (model P w) (A.deeper (envOfC qual scope s.heap.objs.size f cd)) (leaving (envOfC qual scope s.heap.objs.size f cd) e) (fun _ s'' => CX outer H s E e s'') (fun e' s'' => CX outer H s E e' s'') s'

theorem cell_has {sc : Scope} {n : Nat} {x : Str} (h : sc.names.lookup x = some .cell) : ∃ c, (cellsFrom n sc.names []).lookup x = some c := by
  have q := PySem.W.cellsFrom_some sc.names n [] (.inl h)
  exact Option.isSome_iff_exists.mp q

theorem inv_start {CX : CXT} {P : Program} {w : World} {K : PySem.W.Frag} {mg : Str → Option Value} {base : Heap} {N ps : List Str} {qual : Str} {scope : Scope} {f : Addr} {cd : Value} {A : Around} {outer : List Env} {s s1 : Shared} {H : Hp} {E : XK} {us : List Value} {vs : List V}
    (S : FnScope N ps scope) (hd : A.handled = none) (e0 : Env0 P w K mg base A outer s H) (hl : vs.length = ps.length) (r : Vals vs us)
    (x : InCallC s s.heap.objs.size (bindL (envOfC qual scope s.heap.objs.size f cd).kindOf (ps.zip us) fun _ => none) (cellsFrom (s.heap.objs.size + 1) scope.names []) (bindC (envOfC qual scope s.heap.objs.size f cd).kindOf (ps.zip us) fun _ => none) s1) :
    Inv (cxOf CX P w K mg base N qual scope f cd A outer s H E) [] (start N vs) H s1 := by
  have hpl : ps.length ≤ N.length := by have := congrArg List.length S.pre; rw [List.length_take] at this; omega
  obtain ⟨h1, tk, rfl, hk⟩ := x.done
  have noA : ∀ b : Addr, b ∉ (cxOf CX P w K mg base N qual scope f cd A outer s H E).ex := fun b z => absurd (show b ∈ ([] : List Addr) from z) (by simp)
  refine ⟨⟨e0.mod, S.kind, rfl, rfl, Nat.le_refl _, fun y z c h1 h2 => ?_, fun y hy => ?_, fun y c _ h => ?_, fun _ => hd, Around.frames_deeper e0.frames, .inr ⟨rfl, rfl⟩, fun b z => absurd z (noA b), e0.bs, e0.bsz, fun b _ _ => noA b, fun b z => absurd z (noA b), e0.funs, e0.frf⟩,
    rfl, e0.bare, Un.kept hk, ⟨_, x.toInCall.ns, fun i y v h1 h2 h3 => ?_⟩, fun y c h => ⟨_, x.cell y c h⟩, e0.hok.fresh (Nat.le_refl _), fun y c h => ?_, fun p hp => absurd (show p ∈ ([] : List (Addr × Obj)) from hp) (by simp), e0.hok.kept hk, ?_⟩
  · exact name_of_addr x.apart (PySem.mem_of_lookup h1) (PySem.mem_of_lookup h2)
  · have hy : scope.names.lookup y = some .cell ∨ scope.names.lookup y = some .free := hy
    rcases hy with hy | hy
    · exact cell_has hy
    · exact absurd rfl (S.nofree _ (PySem.mem_of_lookup hy))
  · exact Nat.le_of_lt (x.above y c (PySem.mem_of_lookup h))
  · have hi : i < vs.length := by
      unfold start at h2
      by_cases hi : i < vs.length
      · exact hi
      · rw [List.getElem?_append_right (by simpa using hi)] at h2
        rw [List.getElem?_replicate] at h2
        split at h2 <;> cases h2
    have ha : vs[i]? = some v := by
      unfold start at h2
      rw [List.getElem?_append_left (by simpa using hi), List.getElem?_map] at h2
      cases e : vs[i]? with
      | none => rw [e] at h2; cases h2
      | some a => rw [e] at h2; cases h2; rfl
    obtain ⟨u, hu, rv⟩ := r.get ha
    have hp : ps[i]? = some y := by
      rw [← S.pre, List.getElem?_take_of_lt (by omega)]; exact h1
    have ndP : ps.Nodup := by rw [← S.pre]; exact S.nd.sublist (List.take_sublist _ _)
    refine ⟨u, rv, ?_⟩
    rcases S.par y (List.mem_of_getElem? hp) with k | k
    · exact .inl ⟨k, bindL_get ndP hp hu k⟩
    · obtain ⟨c, e⟩ := cell_has (n := s.heap.objs.size + 1) k
      refine .inr ⟨.inl k, c, e, ?_⟩
      have q := x.cell y c e
      rw [bindC_get ndP hp hu (by show scope.names.lookup y ≠ _; rw [k]; decide)] at q
      exact q
  · exact e0.hok.fresh (Nat.le_of_lt (x.above y c (PySem.mem_of_lookup h)))
  · unfold start
    show _ = N.length
    rw [List.length_append, List.length_map, List.length_replicate]
    omega

/-- THE RULE: a def (or a method) of the text, by its body. The body's reading t is chosen for each entry; it is run at the parameters' values -/
theorem fn_of {CX : CXT} {P : Program} {w : World} {K : PySem.W.Frag} {mg : Str → Option Value} {base : Heap} {k : Nat} {f : Addr} {name qual : Str} {params : Arguments} {body : List Stmt} {scope : Scope} {dV kV doc pm cdv ct oc : Value} {an od : Option Addr}
    {osl : Array (Option Value)} {N ps : List Str} {sp : Sp} (lk : K.lookup f = some ⟨oc, od, .func (PySem.W.fnOf name qual params body scope dV kV doc pm an cdv ct), osl⟩) (hcd : PySem.W.codeIn K cdv qual = true) (S : FnScope N ps scope)
    (len : ∀ vs H Q E, sp vs H Q E → vs.length = ps.length)
    (hbody : ∀ (A : Around) (outer : List Env) (s : Shared) (H : Hp) (vs : List V) (Q : VK) (E : XK), Room k (A.deeper (envOfC qual scope s.heap.objs.size f cdv)) → sp vs H Q E →
      ∃ t, PSs (cxOf CX P w K mg base N qual scope f cdv A outer s H E) body t ∧ t { nx := fun _ H' => Q .non H', rt := Q } (start N vs) H) :
    FnOk P w K mg base CX (k + 1) f (PySem.W.fnOf name qual params body scope dV kV doc pm an cdv ct) ps sp := by
  refine ⟨len, fun A outer s H args us vs Q E hr e0 hb r hsp => ?_⟩
  have hl := len _ _ _ _ hsp
  have KX : K.In s.heap := e0.mod.kin.keeps fun b o e => (e0.bs b o e).1
  have lim : s.heap.NoLimit := e0.mod.nolimit.keeps fun b o e => (e0.bs b o e).1
  have hkind : ∀ y ∈ ps.zip us, scope.names.lookup y.1 = some .local ∨ (scope.names.lookup y.1 = some .cell ∧ ((cellsFrom (s.heap.objs.size + 1) scope.names []).lookup y.1).isSome = true) := fun ⟨n, v⟩ hy => by
    rcases S.par n (List.of_mem_zip hy).1 with q | q
    · exact .inl q
    · exact .inr ⟨q, PySem.W.cellsFrom_some _ _ _ (.inl q)⟩
  refine codeAny_call_function hr.depth (KX _ _ lk) rfl S.co S.gen rfl (PySem.W.codeRec_of KX hcd) (hb _ _ _ _ ?_)
  refine wpAny_newFunctionEnv_cells S.kind hkind fun env he s1 x => ?_
  subst he
  refine ⟨lim.keeps x.toInCall.keep, codeAny_func ?_⟩
  obtain ⟨t, ht, hq⟩ := hbody A outer s H vs Q E (hr.deeper _) hsp
  have I : Inv (cxOf CX P w K mg base N qual scope f cdv A outer s H E) [] (start N vs) H s1 := inv_start S hr.hd e0 hl r x
  refine wpAny_mono (ht [] s1 (start N vs) H _ I hq) (fun fl s' hs => ?_) fun e s' hs => hs
  have fin : ∀ {σ' : St} {H' : Hp} {v : V} {u : Value}, Inv (cxOf CX P w K mg base N qual scope f cdv A outer s H E) [] σ' H' s' → RelV v u → Q v H' → CE outer P w H s Q u s' :=
    fun {σ' H' v u} J rv q => ⟨v, H', J.os, J.bare, J.base, J.hok, rv, q⟩
  cases fl with
  | ret u =>
    obtain ⟨v, σ', H', J, rv, q⟩ := hs
    exact fin J rv q
  | next =>
    obtain ⟨σ', H', J, q⟩ := hs
    exact fin (v := V.non) (u := Value.none) J rfl q
  | brk =>
    obtain ⟨_, _, _, q⟩ := hs
    exact False.elim q
  | cont =>
    obtain ⟨_, _, _, q⟩ := hs
    exact False.elim q
end L2

namespace L2
open PySem PySem.Spec PyProof.Rows
section
variable {X : Cx} {x : Str} {p pos : Pos} {e : Expr} {es : List Expr} {t : TA} {id T : String} {r : List V → Hp → VK → Prop}

def tCB (r : List V → Hp → VK → Prop) (t : TA) : TE := fun σ H Q => t σ H fun vs H1 => r vs H1 Q
/-- f(e, ..), f a built-in function -/
theorem pe_callB (hc : CallR X (.builtin id) r) (hg : Gl X x) (hm : X.mg x = none) (hv : bootBuiltins x = some (.builtin id)) (ha : PA X (e :: es) t) (hn : x ≠ "__name__" := by decide) (hdb : (x == ("__debug__" : Str)) = false := by decide)
    (he : starEach (e :: es) X.env = (false, eval e X.env) :: starEach es X.env := by rfl) (hpl : (backTo pos (starEach es X.env)).any (·.1) = false := by rfl) : PE X (.Call (.Name x p) (e :: es) [] pos) (tCB r t) := by
  intro pins s σ H Q I h
  refine wpAny_Call_Name_kw (ld_blt I hg hm hv ?_ hn hdb)
  exact PyProof.Rows.callWith_builtin1 (thn (ha pos pins s σ H _ I h) fun us s1 ⟨vs, H1, I1, r1, q1⟩ => hc pins s1 σ H1 vs us Q I1 r1 q1) he hpl
/-- T(e, ..), T a built-in type -/
theorem pe_callTy (hc : CallR X (.type T) r) (hg : Gl X x) (hm : X.mg x = none) (hv : bootBuiltins x = some (.type T)) (ha : PA X (e :: es) t) (hn : x ≠ "__name__" := by decide) (hdb : (x == ("__debug__" : Str)) = false := by decide)
    (he : starEach (e :: es) X.env = (false, eval e X.env) :: starEach es X.env := by rfl) (hpl : (backTo pos (starEach es X.env)).any (·.1) = false := by rfl) : PE X (.Call (.Name x p) (e :: es) [] pos) (tCB r t) := by
  intro pins s σ H Q I h
  refine wpAny_Call_Name_kw (ld_blt I hg hm hv ?_ hn hdb)
  exact PyProof.Rows.callWith_type1 (thn (ha pos pins s σ H _ I h) fun us s1 ⟨vs, H1, I1, r1, q1⟩ => hc pins s1 σ H1 vs us Q I1 r1 q1) he hpl
end
end L2

namespace HT
open PySem PyProof.Rows

section
open PySem.SeqAt
open PySem.AutoSeq1 (wpAny_loadPart')
open PySem.MeetsSeq PySem.MeetsSeq2 PySem.MeetsSeq3

end

section
variable {prog : Program} {w : World} {A : Around} {E : Value → Shared → Prop} {s : Shared}

/-! ### t[a:b], not the whole -/
/-- a slice's bound as a place among n (d where it is left out) -/
def sIx (n d : Nat) : Option Int → Nat
  | none => d
  | some v => if v < 0 then (v + (n : Int)).toNat else min v.toNat n
theorem sIx_none (n d : Nat) : sIx n d none = d := rfl
theorem sIx_nat (n d k : Nat) : sIx n d (some (k : Int)) = min k n := by
  show (if (k : Int) < 0 then ((k : Int) + (n : Int)).toNat else min (k : Int).toNat n) = min k n
  rw [if_neg (by omega), Int.toNat_natCast]
end
end HT

namespace L2
open PySem PySem.Spec PyProof.Rows

/-! ### the parts of a slice -/
abbrev TO := St → Hp → (Option Int → Hp → Prop) → Prop
/-- a slice's part (left out, or an int) -/
def PO (X : Cx) (e : Option Expr) (t : TO) : Prop :=
  ∀ (pins : List (Addr × Obj)) (s : Shared) (σ : St) (H : Hp) (Q : Option Int → Hp → Prop), Inv X pins σ H s → t σ H Q →
    wpAny (model X.prog X.w) X.A (evalPart e X.env) (fun u s' => ∃ o H', Inv X pins σ H' s' ∧ IsPart u o ∧ Q o H') X.xe s
def tNoPart : TO := fun _ H Q => Q none H
def tPart (t : TE) : TO := fun σ H Q => t σ H fun x H1 => ∃ i, x = .int i ∧ Q (some i) H1

section
variable {X : Cx} {e : Expr} {te : TE} {lo hi : Option Expr} {tl th : TO} {pos p2 : Pos}

theorem po_none : PO X none tNoPart := by
  intro pins s σ H Q I h
  rw [evalPart_none]
  exact wpAny_pure ⟨none, H, I, .none, h⟩
theorem po_some (h : PE X e te) : PO X (some e) (tPart te) := by
  intro pins s σ H Q I hw
  rw [evalPart_some]
  refine thn (h pins s σ H _ I hw) fun u s1 ⟨x, H1, I1, r1, q1⟩ => ?_
  obtain ⟨i, rfl, q⟩ := q1
  obtain ⟨t, rfl⟩ := r1
  exact ⟨some i, H1, I1, .int i t, q⟩

/-- what a slice of a value is, by values: the slice object stands at sl -/
def SlR (X : Cx) (r : V → Option Int → Option Int → Hp → VK → Prop) : Prop :=
  ∀ (pins : List (Addr × Obj)) (s : Shared) (σ : St) (H : Hp) (x : V) (v vl vu : Value) (lo hi : Option Int) (sl : Addr) (Q : VK), Inv X pins σ H s → RelV x v → s.heap.IsSliceOf sl vl vu .none → IsPart vl lo → IsPart vu hi → r x lo hi H Q →
    ∃ T id, typeLookup (.type T) "__getitem__" = pure (some (.builtin id)) ∧ s.TypeIs v T ∧ wpAny (model X.prog X.w) X.A (getItem v (.ref sl)) (EP X pins σ Q) X.xe s
def tSl (r : V → Option Int → Option Int → Hp → VK → Prop) (te : TE) (tl th : TO) : TE := fun σ H Q => te σ H fun x H1 => tl σ H1 fun l H2 => th σ H2 fun u H3 => r x l u H3 Q
/-- a[lo:hi], any a -/
theorem pe_slice {r : V → Option Int → Option Int → Hp → VK → Prop} (hr : SlR X r) (he : PE X e te) (hl : PO X lo tl) (hu : PO X hi th) : PE X (.Subscript e (.Slice lo hi none p2) pos) (tSl r te tl th) := by
  intro pins s σ H Q I h
  refine Subscript_ (thn (he pins s σ H _ I h) fun v s1 ⟨x, H1, I1, r1, q1⟩ => ?_)
  refine wpAny_Slice (thn (hl pins s1 σ H1 _ I1 q1) fun vl s2 ⟨l, H2, I2, pl, q2⟩ => thn (hu pins s2 σ H2 _ I2 q2) fun vu s3 ⟨u, H3, I3, pu, q3⟩ => ?_)
  rw [evalPart_none]
  refine wpAny_pure ?_
  have I4 : Inv X pins σ H3 { s3 with heap := s3.heap.push { cls := .type "slice", data := .fields #[vl, vu, .none] } } := I3.kept (t' := s3.toks) fun b ob q => Heap.get?_push_of_some _ q
  obtain ⟨T, id, hT, ht, hg⟩ := hr pins { s3 with heap := s3.heap.push { cls := .type "slice", data := .fields #[vl, vu, .none] } } σ H3 x v vl vu l u s3.heap.objs.size Q I4 r1 (Heap.IsSliceOf.new ..) pl pu q3
  show wpAny (model X.prog X.w) X.A (subscriptTail e (.Slice lo hi none p2) v (.ref s3.heap.objs.size)) (EP X pins σ Q) X.xe { s3 with heap := s3.heap.push { cls := .type "slice", data := .fields #[vl, vu, .none] } }
  exact tail_any (ops := [.ref s3.heap.objs.size, v]) ht hT hg (by with_unfolding_all rfl)

/-- the items of xs[lo:hi] -/
def cutV (xs : List V) (lo hi : Option Int) : List V := (xs.drop (HT.sIx xs.length 0 lo)).take (HT.sIx xs.length xs.length hi - HT.sIx xs.length 0 lo)
theorem cutV_length (xs : List V) (lo hi : Option Int) : (cutV xs lo hi).length ≤ xs.length := by
  unfold cutV
  rw [List.length_take, List.length_drop]
  omega
end
end L2

namespace L2
open PySem PySem.Spec PyProof.Rows

/-! ### places -/
/-- the place that an index of any sign means -/
def ixN (n : Nat) (i : Int) : Option Nat := if 0 ≤ i then (if i < n then some i.toNat else none) else if -(n : Int) ≤ i then some (i + n).toNat else none
def atI {α : Type} (xs : List α) (i : Int) : Option α := (ixN xs.length i).bind fun j => xs[j]?
theorem ixN_seq {n : Nat} {i : Int} {j : Nat} (h : ixN n i = some j) : seqIndex? i n = some j ∧ j < n ∧ -(n : Int) ≤ i ∧ i < n := by
  unfold ixN at h
  by_cases h0 : 0 ≤ i
  · rw [if_pos h0] at h
    by_cases h1 : i < n
    · rw [if_pos h1] at h
      have e : i.toNat = j := Option.some.inj h
      exact ⟨by rw [seqIndex_of h0 h1, e], by omega, by omega, h1⟩
    · rw [if_neg h1] at h; cases h
  · rw [if_neg h0] at h
    by_cases h1 : -(n : Int) ≤ i
    · rw [if_pos h1] at h
      have e : (i + n).toNat = j := Option.some.inj h
      exact ⟨by rw [seqIndex_neg (by omega) h1, e], by omega, h1, by omega⟩
    · rw [if_neg h1] at h; cases h
theorem atI_get {α : Type} {xs : List α} {i : Int} {v : α} (h : atI xs i = some v) : ∃ j, seqIndex? i xs.length = some j ∧ xs[j]? = some v ∧ j < xs.length ∧ -(xs.length : Int) ≤ i ∧ i < xs.length := by
  unfold atI at h
  cases e : ixN xs.length i with
  | none => rw [e] at h; cases h
  | some j =>
    rw [e] at h
    obtain ⟨h1, h2, h3, h4⟩ := ixN_seq e
    exact ⟨j, h1, h, h2, h3, h4⟩
theorem atI_nat {α : Type} {xs : List α} {j : Nat} {v : α} (h : xs[j]? = some v) : atI xs (j : Int) = some v := by
  have hj : j < xs.length := (List.getElem?_eq_some_iff.mp h).1
  have e : ixN xs.length (j : Int) = some j := by
    unfold ixN
    rw [if_pos (by omega), if_pos (by omega)]; simp
  unfold atI; rw [e]; exact h
/-! ### what may be subscripted -/
/-- what stands as an index of a plain subscript -/
def PlainIx (b : Expr) : Prop := ∀ o i, subscripted b false o i = operate [o, i] (getItem o i)
/-- a subscript by values -/
def IxR (X : Cx) (r : R2) : Prop :=
  ∀ (value slice : Expr) (pins : List (Addr × Obj)) (s : Shared) (σ : St) (H : Hp) (x y : V) (v u : Value) (Q : VK), Inv X pins σ H s → RelV x v → RelV y u → r x y H Q →
    subscripted slice false v u = operate [v, u] (getItem v u) → wpAny (model X.prog X.w) X.A (subscriptTail value slice v u) (EP X pins σ Q) X.xe s
/-- a call of a builtin's method by values: the receiver, the arguments -/
def MtR (X : Cx) (id : String) (r : V → List V → Hp → VK → Prop) : Prop :=
  ∀ (pins : List (Addr × Obj)) (s : Shared) (σ : St) (H : Hp) (x : V) (xs : List V) (v : Value) (us : List Value) (Q : VK), Inv X pins σ H s → RelV x v → Vals xs us → r x xs H Q →
    wpAny (model X.prog X.w) X.A (call (.builtin id) (v :: us)) (EP X pins σ Q) X.xe s
section
variable {X : Cx} {a b : Expr} {ta tb : TE} {pos : Pos}
/-- a[b] -/
theorem pe_ix {r : R2} (hr : IxR X r) (ha : PE X a ta) (hb : PE X b tb) (hs : PlainIx b) : PE X (.Subscript a b pos) (tOp r ta tb) := by
  intro pins s σ H Q I h
  exact Subscript_ (binT ha hb I h fun v u s2 x y H2 I2 rx ry q => hr a b pins s2 σ H2 x y v u Q I2 rx ry q (hs _ _))

def rIxL (K : PySem.W.Frag) : R2 := fun x y H Q => ∃ p xs i v, x = .ref p ∧ y = .int i ∧ SqL K H p xs ∧ atI xs i = some v ∧ Q v H
def rIxT (K : PySem.W.Frag) : R2 := fun x y H Q => ∃ p xs i v, x = .ref p ∧ y = .int i ∧ SqT K H p xs ∧ atI xs i = some v ∧ Q v H
theorem ix_list : IxR X (rIxL X.K) := by
  intro value slice pins s σ H x y v u Q I rx ry h hs
  obtain ⟨p, xs, i, z, rfl, rfl, hq, he, q⟩ := h
  cases rx
  obtain ⟨t, rfl⟩ := ry
  obtain ⟨its, r, pl, hz⟩ := I.list hq
  obtain ⟨j, h1, h2, h3, h4, h5⟩ := atI_get he
  obtain ⟨w, ew, rw'⟩ := r.get h2
  have hl := r.length
  have hn := line63
  have fin : EP X pins σ Q w s := ⟨z, H, I, rw', q⟩
  by_cases h0 : 0 ≤ i
  · have hj : i.toNat = j := by
      rw [seqIndex_of h0 h5] at h1
      exact Option.some.inj h1
    exact item_listR pl.isList h0 (by omega) (by rw [hj]; simpa using ew) fin hs
  · have hj : (i + (its.toArray.size : Int)).toNat = j := by
      rw [seqIndex_neg (by omega) h4] at h1
      rw [List.size_toArray, ← hl]
      exact Option.some.inj h1
    exact subscriptTail_builtinR (x := w) pl.isList.typeIs slot_list_getitem.lookup
      (wpAny_getItem_list_neg (Q := fun r s' => r = w ∧ EP X pins σ Q r s') pl.isList (by omega) (by rw [List.size_toArray] <;> omega) (by omega) (by rw [hj]; simpa using ew) ⟨rfl, fin⟩) hs
theorem ix_tup : IxR X (rIxT X.K) := by
  intro value slice pins s σ H x y v u Q I rx ry h hs
  obtain ⟨p, xs, i, z, rfl, rfl, hq, he, q⟩ := h
  cases rx
  obtain ⟨t, rfl⟩ := ry
  obtain ⟨its, r, pl, hz⟩ := I.tuple hq
  obtain ⟨j, h1, h2, h3, h4, h5⟩ := atI_get he
  obtain ⟨w, ew, rw'⟩ := r.get h2
  have hl := r.length
  have hn := line63
  have fin : EP X pins σ Q w s := ⟨z, H, I, rw', q⟩
  exact subscriptTail_builtinR (x := w) pl.typeIs slot_tuple_getitem.lookup
    (getItem_tuple (j := j) (Q := fun r s' => r = w ∧ EP X pins σ Q r s') pl (by omega) (by omega) (by rw [List.size_toArray, ← hl]; exact h1) (by simpa using ew) ⟨rfl, fin⟩) hs
/-! ### xs[i] = v, any sign -/
/-- the list's object behind a store -/
theorem mapSeq_set (its : List Value) (n j : Nat) (u : Value) : Obj.mapSeq (·.setIfInBounds j u) { cls := .type "list", data := .seq its.toArray n } = { cls := .type "list", data := .seq (its.set j u).toArray n } := by
  simp [Obj.mapSeq]
theorem Inv.lst {pins : List (Addr × Obj)} {σ : St} {H : Hp} {s : Shared} {p : Addr} {xs : List V} (I : Inv X pins σ H s) (h : H p = some (.lst xs)) :
    ∃ (its : List Value) (n : Nat), Vals xs its ∧ s.heap.get? p = some { cls := .type "list", data := .seq its.toArray n } ∧ xs.length ≤ sizeLine := by
  obtain ⟨z, its, n, r, e⟩ := I.hok p _ h
  exact ⟨its, n, r, e, z⟩
/-- the list at p is written by an update of its object -/
theorem Inv.lstUpd {pins : List (Addr × Obj)} {σ : St} {H : Hp} {s : Shared} {p : Addr} {xs ys : List V} {its its' : List Value} {n n' : Nat} {f : Obj → Obj} (I : Inv X pins σ H s) (h : H p = some (.lst xs))
    (ho : s.heap.get? p = some { cls := .type "list", data := .seq its.toArray n }) (hf : f { cls := .type "list", data := .seq its.toArray n } = { cls := .type "list", data := .seq its'.toArray n' }) (r : Vals ys its') (hz : ys.length ≤ sizeLine) (t : Nat) :
    Inv X pins σ (upd H p (.lst ys)) { s with heap := s.heap.update p f, toks := t } := by
  have e : (s.heap.update p f).get? p = some { cls := .type "list", data := .seq its'.toArray n' } := by
    rw [Heap.get?_update_self f ho (by rw [hf] <;> rfl), hf]
  refine I.write (x := p) (e := p) (by rw [h]; trivial) (.inl rfl) (fun b u hb q => (Heap.get?_update_other _ _ (Ne.symm hb)).trans q) ⟨_, e⟩ ?_
  exact ⟨hz, its', n', r, e⟩
def rSetL : V → V → V → Hp → (Hp → Prop) → Prop := fun o i v H Q => ∃ p xs k j, o = .ref p ∧ i = .int k ∧ H p = some (.lst xs) ∧ ixN xs.length k = some j ∧ Q (upd H p (.lst (xs.set j v)))
theorem set_list : PSet X rSetL := by
  intro pins s σ H o i v ov iv u Q I ro ri rv h
  obtain ⟨p, xs, k, j, rfl, rfl, hp, hj, q⟩ := h
  cases ro
  obtain ⟨t, rfl⟩ := ri
  obtain ⟨its, n, r, ho, hz⟩ := I.lst hp
  obtain ⟨h1, h2, h3, h4⟩ := ixN_seq hj
  have hl := r.length
  have hn := line63
  have I' : Inv X pins σ (upd H p (.lst (xs.set j v))) { s with heap := s.heap.update p (Obj.mapSeq (·.setIfInBounds j u)) } :=
    I.lstUpd hp ho (mapSeq_set its n j u) (r.set rv j) (by rw [List.length_set]; exact hz) s.toks
  by_cases h0 : 0 ≤ k
  · have hk : k.toNat = j := by
      rw [seqIndex_of h0 h4] at h1
      exact Option.some.inj h1
    exact PySem.W.ki_setAt ho h0 (by omega) (by rw [List.size_toArray, ← hl]; exact h4) (by rw [hk]; exact ⟨_, I', q⟩)
  · have hk : (k + (its.toArray.size : Int)).toNat = j := by
      rw [seqIndex_neg (by omega) h3] at h1
      rw [List.size_toArray, ← hl]
      exact Option.some.inj h1
    exact PySem.W.ki_setBack ho (by omega) (by rw [List.size_toArray, ← hl]; exact h3) (by omega) (by rw [hk]; exact ⟨_, I', q⟩)

/-! ### slices -/
theorem slice_bounds (lo hi : Option Int) (n : Nat) : (sliceBounds lo hi none n).1 = ((HT.sIx n 0 lo : Nat) : Int) ∧ (sliceBounds lo hi none n).2.1 = ((HT.sIx n n hi : Nat) : Int) ∧ (sliceBounds lo hi none n).2.2 = 1 := by
  refine ⟨?_, ?_, rfl⟩
  · cases lo with
    | none => simp [sliceBounds, HT.sIx]
    | some i =>
      simp only [sliceBounds, HT.sIx, Option.getD_none, show (1 : Int) > 0 by decide, if_true]
      by_cases h : i < 0
      · simp only [h, if_true] <;> omega
      · simp only [h, if_false] <;> omega
  · cases hi with
    | none => simp [sliceBounds, HT.sIx]
    | some i =>
      simp only [sliceBounds, HT.sIx, Option.getD_none, show (1 : Int) > 0 by decide, if_true]
      by_cases h : i < 0
      · simp only [h, if_true] <;> omega
      · simp only [h, if_false] <;> omega
theorem slicePick_cut (its : List Value) (lo hi : Option Int) : slicePick its.toArray lo hi none = ((its.drop (HT.sIx its.length 0 lo)).take (HT.sIx its.length its.length hi - HT.sIx its.length 0 lo)).toArray := by
  obtain ⟨h1, h2, h3⟩ := slice_bounds lo hi its.toArray.size
  unfold slicePick
  rw [h1, h2, h3]
  simp only [sliceRange_one, pick_run, List.size_toArray] <;> rfl
/-- xs[lo:hi] of a list: a new list -/
def rSlL (K : PySem.W.Frag) : V → Option Int → Option Int → Hp → VK → Prop := fun x lo hi H Q => ∃ a xs, x = .ref a ∧ SqL K H a xs ∧ ∀ p, H p = none → Q (.ref p) (upd H p (.lst (cutV xs lo hi)))
theorem sl_list : SlR X (rSlL X.K) := by
  intro pins s σ H x v vl vu lo hi sl Q I rx hs pl pu h
  obtain ⟨a, xs, rfl, hx, q⟩ := h
  cases rx
  obtain ⟨its, r, ht, hz⟩ := I.list hx
  have hlen := r.length
  refine ⟨"list", _, slot_list_getitem.lookup, ht.isList.typeIs, ?_⟩
  refine wpAny_getItem_list_slice ht.isList hs pl pu .none (by simp) ?_ (by rw [List.size_toArray] <;> omega)
  rw [slicePick_cut, ← hlen]
  refine ⟨.ref s.heap.objs.size, _, I.laid (t' := s.toks) (o := .lst (cutV xs lo hi)) (fun b ob q => Heap.get?_push_of_some _ q) (Nat.le_refl _) ?_, rfl, q _ (I.hok.fresh (Nat.le_refl _))⟩
  exact ⟨Nat.le_trans (cutV_length xs lo hi) hz, _, 0, (r.drop (HT.sIx xs.length 0 lo)).take (HT.sIx xs.length xs.length hi - HT.sIx xs.length 0 lo), Heap.get?_push_size _ rfl⟩

/-! ### in, not in: flat items -/
def flatV : V → Bool
  | .non => true
  | .bl _ => true
  | .int _ => true
  | .str _ => true
  | _ => false
/-- == of flat values -/
def eqV : V → V → Bool
  | .non, .non => true
  | .bl a, .bl b => a == b
  | .bl a, .int b => (if a then 1 else 0) == b
  | .int a, .bl b => a == (if b then 1 else 0)
  | .int a, .int b => a == b
  | .str a, .str b => a == b
  | _, _ => false
theorem eqAt_V {A : Around} {s : Shared} {y x : V} {u v : Value} (ry : RelV y u) (rx : RelV x v) (fy : flatV y = true) (fx : flatV x = true) : SeqAt.EqAt A s u v (eqV y x) := by
  cases y with
  | non =>
    cases ry
    cases x with
    | non => cases rx; exact SeqAt.EqAt.same _
    | bl b => cases rx; exact SeqAt.EqAt.none_bool b
    | int b => obtain ⟨t, rfl⟩ := rx; exact SeqAt.EqAt.none_int b t
    | str b => obtain ⟨t, rfl⟩ := rx; exact SeqAt.EqAt.none_str b t
    | _ => exact absurd (show false = true from fx) Bool.false_ne_true
  | bl a =>
    cases ry
    cases x with
    | non => cases rx; exact SeqAt.EqAt.bool_none a
    | bl b => cases rx; exact SeqAt.EqAt.bool_bool a b
    | int b => obtain ⟨t, rfl⟩ := rx; exact SeqAt.EqAt.bool_int a b t
    | str b => obtain ⟨t, rfl⟩ := rx; exact SeqAt.EqAt.bool_str a b t
    | _ => exact absurd (show false = true from fx) Bool.false_ne_true
  | int a =>
    obtain ⟨t', rfl⟩ := ry
    cases x with
    | non => cases rx; exact SeqAt.EqAt.int_none a t'
    | bl b => cases rx; exact SeqAt.EqAt.int_bool a t' b
    | int b => obtain ⟨t, rfl⟩ := rx; exact SeqAt.EqAt.int_int a t' b t
    | str b => obtain ⟨t, rfl⟩ := rx; exact SeqAt.EqAt.int_str a t' b t
    | _ => exact absurd (show false = true from fx) Bool.false_ne_true
  | str a =>
    obtain ⟨t', rfl⟩ := ry
    cases x with
    | non => cases rx; exact SeqAt.EqAt.str_none a t'
    | bl b => cases rx; exact SeqAt.EqAt.str_bool a t' b
    | int b => obtain ⟨t, rfl⟩ := rx; exact SeqAt.EqAt.str_int a t' b t
    | str b => obtain ⟨t, rfl⟩ := rx; exact SeqAt.EqAt.str_str a t' b t
    | _ => exact absurd (show false = true from fx) Bool.false_ne_true
  | _ => exact absurd (show false = true from fy) Bool.false_ne_true
/-- the items' answers, read off the values (a value's own answer does not lean on its token) -/
def eqU (x : V) (u : Value) : Bool := match u with
  | .none => eqV .non x
  | .bool b => eqV (.bl b) x
  | .int i _ => eqV (.int i) x
  | .str z _ => eqV (.str z) x
  | _ => false
theorem eqU_of {x y : V} {u : Value} (r : RelV y u) (f : flatV y = true) : eqU x u = eqV y x := by
  cases y with
  | non => cases r; rfl
  | bl b => cases r; rfl
  | int i => obtain ⟨t, rfl⟩ := r; rfl
  | str z => obtain ⟨t, rfl⟩ := r; rfl
  | _ => exact absurd (show false = true from f) Bool.false_ne_true
theorem any_eqU {x : V} : ∀ {xs : List V} {us : List Value}, Vals xs us → xs.all flatV = true → us.any (eqU x) = xs.any fun y => eqV y x
  | _, _, .nil, _ => rfl
  | y :: xs, u :: us, .cons r t, f => by
    rw [List.all_cons, Bool.and_eq_true] at f
    rw [List.any_cons, List.any_cons, eqU_of r f.1, any_eqU t f.2]
theorem mem_eqAt {A : Around} {s : Shared} {x : V} {v : Value} (rx : RelV x v) (fx : flatV x = true) : ∀ {xs : List V} {us : List Value}, Vals xs us → xs.all flatV = true → ∀ u ∈ us, SeqAt.EqAt A s u v (eqU x u)
  | _, _, .nil, _ => fun u hu => by cases hu
  | y :: xs, u :: us, .cons r t, f => fun u' hu => by
    rw [List.all_cons, Bool.and_eq_true] at f
    rcases List.mem_cons.mp hu with rfl | hu
    · rw [eqU_of r f.1]; exact eqAt_V r rx f.1 fx
    · exact mem_eqAt rx fx t f.2 u' hu
def inV (x : V) (xs : List V) : Bool := xs.any fun y => eqV y x
/-- x in a list or tuple of flat items -/
def rIn (K : PySem.W.Frag) (neg : Bool) : R2 := fun x y H Q => ∃ p xs, y = .ref p ∧ (SqL K H p xs ∨ SqT K H p xs) ∧ flatV x = true ∧ xs.all flatV = true ∧ Q (.bl (if neg then !inV x xs else inV x xs)) H
theorem op_in_seq : OpR X (compareOp .In) (rIn X.K false) := by
  intro pins s σ H x y v u Q I rx ry h
  obtain ⟨p, xs, rfl, hq, fx, fs, q⟩ := h
  cases ry
  rcases hq with hq | hq
  · obtain ⟨its, r, pl, hz⟩ := I.list hq
    refine SeqAt.in_listAt (eqU x) pl.isList (fun w hw => mem_eqAt rx fx r fs w (by simpa using hw)) ⟨.bl _, H, I, rfl, ?_⟩
    rw [show its.toArray.any (eqU x) = its.any (eqU x) by simp, any_eqU r fs]
    exact q
  · obtain ⟨its, r, pl, hz⟩ := I.tuple hq
    refine SeqAt.in_tupleAt (eqU x) pl (fun w hw => mem_eqAt rx fx r fs w (by simpa using hw)) ⟨.bl _, H, I, rfl, ?_⟩
    rw [show its.toArray.any (eqU x) = its.any (eqU x) by simp, any_eqU r fs]
    exact q
/-! ### len, list(x), tuple(x) of any list or tuple that is read -/
theorem call_len_seq : CallR X (.builtin "len") (fun xs H Q => ∃ p ys, xs = [.ref p] ∧ (SqL X.K H p ys ∨ SqT X.K H p ys) ∧ Q (.int ys.length) H) := by
  intro pins s σ H xs us Q I r h
  obtain ⟨p, ys, rfl, hq, q⟩ := h
  obtain ⟨u, rfl, rx⟩ := vals1 r
  cases rx
  have hn := line63
  rcases hq with hq | hq
  · obtain ⟨its, r', pl, hz⟩ := I.list hq
    have hlen := r'.length
    exact Calls.call_len_list pl.isList (by simp only [List.size_toArray] <;> omega) ⟨.int ys.length, H, I.tok _, ⟨s.toks + 1, by rw [List.size_toArray, hlen]⟩, q⟩
  · obtain ⟨its, r', pl, hz⟩ := I.tuple hq
    have hlen := r'.length
    exact len_tuple pl (by simp only [List.size_toArray] <;> omega) ⟨.int ys.length, H, I.tok _, ⟨s.toks + 1, by rw [List.size_toArray, hlen]⟩, q⟩
theorem call_list_of : CallR X (.type "list") (fun xs H Q => ∃ p ys, xs = [.ref p] ∧ (SqL X.K H p ys ∨ SqT X.K H p ys) ∧ ∀ l, H l = none → Q (.ref l) (upd H l (.lst ys))) := by
  intro pins s σ H xs us Q I r h
  obtain ⟨p, ys, rfl, hq, q⟩ := h
  obtain ⟨u, rfl, rx⟩ := vals1 r
  cases rx
  have fin : ∀ (its : List Value), Vals ys its → ys.length ≤ sizeLine → ∀ (h' : Heap) (c' : Nat), (∀ b o', s.heap.get? b = some o' → h'.get? b = some o') →
      h'.get? s.heap.objs.size = some { cls := .type "list", dict := none, data := .seq its.toArray c', slots := #[] } → EP X pins σ Q (.ref s.heap.objs.size) { s with heap := h' } := fun its r' hz h' c' kp e =>
    ⟨.ref s.heap.objs.size, _, I.laid (t' := s.toks) kp (Nat.le_refl _) (show ObjOk X.prog X.w _ h' _ (.lst ys) from ⟨hz, its, c', r', e⟩), rfl, q _ (I.hok.fresh (Nat.le_refl _))⟩
  rcases hq with hq | hq
  · obtain ⟨its, r', pl, hz⟩ := I.list hq
    have hlen := r'.length
    obtain ⟨o, ho, hc, n, hd⟩ := pl.isList
    exact call_list_seq p (.inl rfl) ho hc hd (fun h' c' kp e => fin its r' hz h' c' kp e) (by simp only [List.size_toArray] <;> omega)
  · obtain ⟨its, r', pl, hz⟩ := I.tuple hq
    have hlen := r'.length
    obtain ⟨o, ho, hc, n, hd⟩ := pl
    exact call_list_seq p (.inr rfl) ho hc hd (fun h' c' kp e => fin its r' hz h' c' kp e) (by simp only [List.size_toArray] <;> omega)
/-! ### the call of a builtin's method: o.m(..) -/
/-- the value is of that builtin type -/
def tyV (K : PySem.W.Frag) (T : String) (x : V) (H : Hp) : Prop := match x with
  | .str _ => T = "str"
  | .int _ => T = "int"
  | .ref p => (T = "list" ∧ ∃ xs, SqL K H p xs) ∨ (T = "tuple" ∧ ∃ o, K.lookup p = some o ∧ o.cls = .type "tuple" ∧ o.dict = none) ∨
      (T = "dict" ∧ ((∃ kvs, H p = some (.dK kvs)) ∨ ∃ kvs, H p = some (.dT kvs))) ∨ (T = "set" ∧ ∃ S n, H p = some (.set S n))
  | _ => False
theorem tyV_is {pins : List (Addr × Obj)} {σ : St} {H : Hp} {s : Shared} {T : String} {x : V} {v : Value} (I : Inv X pins σ H s) (r : RelV x v) (ty : tyV X.K T x H) :
    s.TypeIs v T ∧ ∀ a, v = .ref a → ∃ ob, s.heap.get? a = some ob ∧ ob.dict = none := by
  cases x with
  | str z =>
    obtain ⟨t, rfl⟩ := r
    cases (show T = "str" from ty)
    exact ⟨typeIs_str s z t, fun _ e => nomatch e⟩
  | int i =>
    obtain ⟨t, rfl⟩ := r
    cases (show T = "int" from ty)
    exact ⟨typeIs_int s i t, fun _ e => nomatch e⟩
  | ref p =>
    cases r
    rcases ty with ⟨rfl, xs, hq⟩ | ⟨rfl, o, hk, hc, hd⟩ | ⟨rfl, hk⟩ | ⟨rfl, S, n, hk⟩
    · obtain ⟨its, _, pl, _⟩ := I.list hq
      refine ⟨pl.isList.typeIs, fun a e => ?_⟩
      cases e
      obtain ⟨o, n, e, c, hd, _⟩ := pl
      exact ⟨o, e, hd⟩
    · refine ⟨⟨o, I.kIn p o hk, hc⟩, fun a e => ?_⟩
      cases e
      exact ⟨o, I.kIn _ o hk, hd⟩
    · have z : ∃ o, s.heap.get? p = some o ∧ o.ExactDict := by
        rcases hk with ⟨kvs, hk⟩ | ⟨kvs, hk⟩
        · obtain ⟨_, _, _, _, o, _, _, e, ex, _⟩ := I.hok p _ hk
          exact ⟨o, e, ex⟩
        · obtain ⟨_, _, _, _, o, _, _, e, ex, _⟩ := I.hok p _ hk
          exact ⟨o, e, ex⟩
      obtain ⟨o, e, ex⟩ := z
      refine ⟨⟨o, e, ex.1⟩, fun a e2 => ?_⟩
      cases e2
      exact ⟨o, e, ex.2.1⟩
    · obtain ⟨o, _, _, _, e, ex, _⟩ := I.hok p _ hk
      refine ⟨⟨o, e, ex.1⟩, fun a e2 => ?_⟩
      cases e2
      exact ⟨o, e, ex.2.1⟩
  | _ => exact False.elim ty
def tBM (K : PySem.W.Frag) (T : String) (r : V → List V → Hp → VK → Prop) (to : TE) (t : TA) : TE := fun σ H Q => to σ H fun x H1 => tyV K T x H1 ∧ t σ H1 fun xs H2 => r x xs H2 Q
variable {o e : Expr} {es : List Expr} {to : TE} {t : TA} {name : Str} {apos cpos : Pos} {T id : String} {r : V → List V → Hp → VK → Prop}
theorem pe_bm (pa : PlainAttrs T) (slot : Slot T name id) (hty : typeOf (.builtin id) = pure (.type "method_descriptor")) (hm : MtR X id r) (ho : PE X o to) (ha : PA X (e :: es) t)
    (hbase : attributeBase o name X.env (eval o X.env) = eval o X.env := by rfl)
    (hfew : ((backTo cpos (starEach (e :: es) X.env)).all (fun x => !x.1) && (backToKw cpos (keywordEach [] X.env)).all (fun x => x.1.isSome)
      && decide ((e :: es).length + ([] : List Keyword).length + (if ([] : List Keyword).isEmpty then 0 else 1) < 30)) = true := by rfl)
    (hline : (apos.endLine == cpos.line) = true := by rfl) (hs : starEach (e :: es) X.env = (false, eval e X.env) :: starEach es X.env := by rfl) (hplain : (backTo cpos (starEach es X.env)).any (·.1) = false := by rfl) :
    PE X (.Call (.Attribute o name apos) (e :: es) [] cpos) (tBM X.K T r to t) := by
  intro pins s σ H Q I h
  refine wpAny_Call_method_late hbase hfew hline rfl (thn (ho pins s σ H _ I h) fun v s1 ⟨x, H1, I1, r1, ty, q1⟩ => ?_)
  obtain ⟨h1, h2⟩ := tyV_is I1 r1 ty
  refine ⟨T, id, pa, slot, hty, h1, h2, ?_⟩
  have hA := ha cpos pins s1 σ H1 _ I1 q1
  rw [hs] at hA ⊢
  refine Calls.callWith_builtin (by show (false || (backTo cpos (starEach es X.env)).any (·.1)) = false; rw [hplain] <;> rfl) (Calls.evalArgs_plain ?_)
  exact thn hA fun us s2 ⟨vs, H2, I2, r2, q2⟩ => hm pins s2 σ H2 x vs v us Q I2 r1 r2 q2
/- xs.append(e), list.index on a module's tuple .. are MtR facts of 06m -/
end
end L2

namespace L2
open PySem PySem.Spec PyProof.Rows

def MtM (X : Cx) (id : String) (r : V → List V → Hp → VK → Prop) : Prop :=
  ∀ (pins : List (Addr × Obj)) (s : Shared) (σ : St) (H : Hp) (x : V) (xs : List V) (v : Value) (us : List Value) (Q : VK), Inv X pins σ H s → RelV x v → Vals xs us → r x xs H Q →
    wpAny (model X.prog X.w) X.A (call (.builtin id) (v :: us)) (EP X pins σ Q) X.xe s

/-! ### lists of values -/
theorem Vals.one : ∀ {x : V} {us : List Value}, Vals [x] us → ∃ u, us = [u] ∧ RelV x u
  | _, _, .cons r .nil => ⟨_, rfl, r⟩
theorem Vals.zero : ∀ {us : List Value}, Vals [] us → us = []
  | _, .nil => rfl
theorem Vals.eraseIdx : ∀ {xs : List V} {us : List Value} (i : Nat), Vals xs us → Vals (xs.eraseIdx i) (us.eraseIdx i)
  | _, _, _, .nil => .nil
  | _, _, 0, .cons _ t => t
  | _, _, i + 1, .cons r t => .cons r (Vals.eraseIdx i t)
theorem Vals.rep {xs : List V} {us : List Value} (h : Vals xs us) : ∀ k : Nat, Vals (List.replicate k xs).flatten (List.replicate k us).flatten
  | 0 => .nil
  | k + 1 => by
    rw [List.replicate_succ, List.replicate_succ, List.flatten_cons, List.flatten_cons]
    exact Vals.append h (Vals.rep h k)
theorem len_erase {α : Type} : ∀ (l : List α) (i : Nat), (l.eraseIdx i).length ≤ l.length
  | [], _ => Nat.le_refl _
  | _ :: _, 0 => Nat.le_succ _
  | _ :: r, i + 1 => Nat.succ_le_succ (len_erase r i)
section
variable {X : Cx} {pins : List (Addr × Obj)} {σ : St} {H : Hp} {s : Shared} {l b : Addr} {xs ys zs : List V}

/-! ### the two steps: a tracked list is rewritten, a new list is laid -/
theorem Inv.lset {its its' : List Value} {n : Nat} {f : Array Value → Array Value} {t' : Nat} (I : Inv X pins σ H s) (hH : H l = some (.lst xs))
    (e : s.heap.get? l = some { cls := .type "list", data := .seq its.toArray n }) (hf : f its.toArray = its'.toArray) (hv : Vals ys its') (hz : ys.length ≤ sizeLine) :
    Inv X pins σ (upd H l (.lst ys)) { s with heap := s.heap.update l (Obj.mapSeq f), toks := t' } := by
  have q := PySem.IsL.update e f
  rw [hf] at q
  refine I.write (x := l) (e := l) (by rw [hH]; exact trivial) (.inl rfl) (fun b' u hb hu => (Heap.get?_update_other s.heap (Obj.mapSeq f) (Ne.symm hb)).trans hu) ⟨_, q⟩ ?_
  exact ⟨hz, its', _, hv, q⟩
theorem Inv.lnew {its : List Value} {t' : Nat} (I : Inv X pins σ H s) (hv : Vals ys its) (hz : ys.length ≤ sizeLine) :
    Inv X pins σ (upd H s.heap.objs.size (.lst ys)) { s with heap := s.heap.push { cls := .type "list", data := .seq its.toArray }, toks := t' } :=
  I.laid (fun _ _ q => Heap.get?_push_of_some _ q) (Nat.le_refl _) ⟨hz, its, 0, hv, Heap.get?_push_size _ rfl⟩
theorem Inv.fresh (I : Inv X pins σ H s) : H s.heap.objs.size = none := I.hok.fresh (Nat.le_refl _)
theorem Inv.lstM (I : Inv X pins σ H s) (hH : H l = some (.lst xs)) : xs.length ≤ sizeLine ∧ ∃ (its : List Value) (n : Nat), Vals xs its ∧ xs.length = its.length ∧ s.heap.get? l = some { cls := .type "list", data := .seq its.toArray n } := by
  obtain ⟨z, its, n, r, e⟩ := I.hok l _ hH
  exact ⟨z, its, n, r, r.length, e⟩

theorem notLongL {n : Nat} (h : n ≤ sizeLine) : Builtin.List.listTooLong n = false := by
  unfold Builtin.List.listTooLong
  exact decide_eq_false (by omega)
end

section
variable {X : Cx}

/-! ### methods -/
def rAppend : V → List V → Hp → VK → Prop := fun x vs H Q => ∃ l xs y, x = .ref l ∧ vs = [y] ∧ H l = some (.lst xs) ∧ xs.length < sizeLine ∧ Q .non (upd H l (.lst (xs ++ [y])))
theorem mt_append : MtM X "list.append" rAppend := by
  intro pins s σ H x vs v us Q I rx rv h
  obtain ⟨l, xs, y, rfl, rfl, hH, hz, q⟩ := h
  cases rx
  obtain ⟨u, rfl, ru⟩ := rv.one
  obtain ⟨z, its, n, r, hl, e⟩ := I.lstM hH
  refine call_meets F.slot_list_append ⟨_, e, rfl⟩ F.entry_list_append (F.args_list_append_2 _ _) (PySem.list_append l its.toArray n u (by rw [List.size_toArray]; omega)) ⟨e, ?_⟩
  refine ⟨.non, _, I.lset (its' := its ++ [u]) hH e (by simp) (r.append (.cons ru .nil)) ?_, rfl, q⟩
  rw [List.length_append, List.length_singleton]
  omega

def rExtend : V → List V → Hp → VK → Prop := fun x vs H Q => ∃ l b xs zs, x = .ref l ∧ vs = [.ref b] ∧ H l = some (.lst xs) ∧ H b = some (.lst zs) ∧ xs.length + zs.length ≤ sizeLine ∧ Q .non (upd H l (.lst (xs ++ zs)))
theorem mt_extend : MtM X "list.extend" rExtend := by
  intro pins s σ H x vs v us Q I rx rv h
  obtain ⟨l, b, xs, zs, rfl, rfl, hH, hB, hz, q⟩ := h
  cases rx
  obtain ⟨u, rfl, ru⟩ := rv.one
  cases ru
  obtain ⟨z, its, n, r, hl, e⟩ := I.lstM hH
  obtain ⟨z2, its2, n2, r2, hl2, e2⟩ := I.lstM hB
  have hsz : its.toArray.size + its2.toArray.size ≤ sizeLine := by rw [List.size_toArray, List.size_toArray]; omega
  have hlong : ¬ (!its.toArray.isEmpty && Builtin.List.listTooLong (its.toArray.size + its2.toArray.size)) = true := by
    rw [notLongL hsz, Bool.and_false]
    exact Bool.false_ne_true
  refine call_meets F.slot_list_extend ⟨_, e, rfl⟩ F.entry_list_extend (F.args_list_extend_2 _ _)
    (AutoSeq1.list_extend_list_list_0 l its.toArray n b its2.toArray n2 hlong (by rw [List.size_toArray]; omega) (by omega)) ⟨e, e2, ?_⟩
  refine ⟨.non, _, I.lset (its' := its ++ its2) hH e (by simp) (r.append r2) ?_, rfl, q⟩
  rw [List.length_append]
  omega

def rPopAt : V → List V → Hp → VK → Prop := fun x vs H Q => ∃ l xs i k y, x = .ref l ∧ vs = [.int i] ∧ H l = some (.lst xs) ∧ -(2 ^ 63) ≤ i ∧ i < 2 ^ 63 ∧ seqIndex? i xs.length = some k ∧ xs[k]? = some y ∧ Q y (upd H l (.lst (xs.eraseIdx k)))
theorem mt_popAt : MtM X "list.pop" rPopAt := by
  intro pins s σ H x vs v us Q I rx rv h
  obtain ⟨l, xs, i, k, y, rfl, rfl, hH, h1, h2, hk, hy, q⟩ := h
  cases rx
  obtain ⟨u, rfl, ru⟩ := rv.one
  obtain ⟨t, rfl⟩ := ru
  obtain ⟨z, its, n, r, hl, e⟩ := I.lstM hH
  obtain ⟨w, hw, rw'⟩ := r.get hy
  refine call_meets F.slot_list_pop ⟨_, e, rfl⟩ F.entry_list_pop (F.args_list_pop_2 _ _)
    (MeetsSeq.list_pop_at l its.toArray n i t k w (fitsIndex_both h1 h2) (by rw [List.size_toArray, ← hl]; exact hk) (by rw [← Array.getElem?_toList]; exact hw) (by rw [List.size_toArray]; omega)) ⟨e, ?_⟩
  refine ⟨y, _, I.lset (its' := its.eraseIdx k) hH e ?_ (r.eraseIdx k) ?_, rw', q⟩
  · show its.toArray.eraseIdxIfInBounds k = (its.eraseIdx k).toArray
    rw [List.eraseIdxIfInBounds_toArray]
  · have := len_erase xs k
    omega

/-! ### list + list, list += list, list * int -/
def rCat : R2 := fun x y H Q => ∃ l b xs zs, x = .ref l ∧ y = .ref b ∧ H l = some (.lst xs) ∧ H b = some (.lst zs) ∧ xs.length + zs.length ≤ sizeLine ∧ ∀ p, H p = none → Q (.ref p) (upd H p (.lst (xs ++ zs)))
theorem op_cat : OpR X (binaryOp .Add) rCat := by
  intro pins s σ H x y v u Q I rx ry h
  obtain ⟨l, b, xs, zs, rfl, rfl, hH, hB, hz, q⟩ := h
  cases rx
  cases ry
  obtain ⟨z, its, n, r, hl, e⟩ := I.lstM hH
  obtain ⟨z2, its2, n2, r2, hl2, e2⟩ := I.lstM hB
  refine PySem.P.add_list e e2 ?_ (by rw [List.size_toArray, List.size_toArray]; omega)
  have ea : its.toArray ++ its2.toArray = (its ++ its2).toArray := by simp
  rw [ea]
  exact ⟨.ref _, _, I.lnew (t' := s.toks) (r.append r2) (by rw [List.length_append]; omega), rfl, q _ I.fresh⟩
end

/-! ### xs[a:b] = ys -/
section
variable {prog : Program} {w : World} {A : Around} {E : Value → Shared → Prop} {s : Shared}
set_option maxRecDepth 100000 in
end

section
variable {X : Cx}
end
end L2

namespace L2
open PySem PySem.Spec PyProof.Rows

theorem Vals.ints : ∀ {ns : List Int} {us : List Value}, Vals (ns.map V.int) us → IntsAre us ns
  | [], us, h => by
    rw [List.map_nil] at h
    cases h
    exact IntsAre.nil
  | n :: ns, us, h => by
    rw [List.map_cons] at h
    cases h with
    | cons r t =>
      obtain ⟨k, rfl⟩ := r
      exact IntsAre.cons n k (Vals.ints t)
theorem Vals.ref1 {a : Addr} {us : List Value} (r : Vals [V.ref a] us) : us = [Value.ref a] := by
  cases r with
  | cons r t =>
    cases t
    cases r
    rfl
/-! ### the library's walks over a list of ints, kept objects alone -/
section
variable {prog : Program} {w : World} {A : Around} {E : Value → Shared → Prop} {s : Shared} {l : Addr} {its : List Value} {ns : List Int} {Q : Value → Shared → Prop}
theorem sum_raw (hh : A.handled = none) (hl : s.heap.IsList l its.toArray) (hi : IntsAre its ns)
    (h : ∀ h' tk t', (∀ b o, s.heap.get? b = some o → h'.get? b = some o) → Q (.int ns.sum t') { s with heap := h', toks := tk }) : wpAny (model prog w) A (call (.builtin "sum") [.ref l]) Q E s := by
  obtain ⟨xs, e⟩ := hi.allInts.items
  have hn : numsOf (intItems xs).toList = ns := by rw [← e]; exact hi.numsOf
  rw [nums_intItems] at hn
  rw [e] at hl
  refine PySem.sum_intListG hh hl fun h' tk t' hk => ?_
  have := h h' tk t' hk
  rw [preSum_eq, List.take_of_length_le (by simp), hn]; exact this
end

/-! ### the calls, by values (CallR of 03t; MtR of 06l) -/
section
variable {X : Cx}
/-- sum(xs) of a list of ints -/
def rSum (K : PySem.W.Frag) : List V → Hp → VK → Prop := fun vs H Q => ∃ (a : Addr) (ns : List Int), vs = [V.ref a] ∧ SqL K H a (ns.map V.int) ∧ Q (.int ns.sum) H
theorem cr_sum (hc : X.calm = true) : CallR X (.builtin "sum") (rSum X.K) := by
  intro pins s σ H vs us Q I r h
  obtain ⟨a, ns, rfl, hs, q⟩ := h
  obtain ⟨its, rv, hl, _⟩ := I.list hs
  rw [Vals.ref1 r]
  exact sum_raw (I.ok.hd hc) hl.isList rv.ints fun h' tk t' hk => ⟨.int _, H, I.kept hk, ⟨_, rfl⟩, q⟩
end

/-! ### list.index, flat items -/
section
variable {X : Cx}
def rIndex (K : PySem.W.Frag) : V → List V → Hp → VK → Prop := fun x xs H Q => ∃ (a : Addr) (ys : List V) (y : V) (j : Nat) (z : V), x = V.ref a ∧ xs = [y] ∧ SqL K H a ys ∧ flatV y = true ∧ ys.all flatV = true ∧ ys[j]? = some z ∧ eqV z y = true ∧
  (∀ (m : Nat) (z' : V), m < j → ys[m]? = some z' → eqV z' y = false) ∧ Q (.int (j : Nat)) H
theorem flat_at {ys : List V} (f : ys.all flatV = true) {j : Nat} {z : V} (h : ys[j]? = some z) : flatV z = true := List.all_eq_true.mp f z (List.mem_of_getElem? h)
theorem mt_index : MtR X "list.index" (rIndex X.K) := by
  intro pins s σ H x xs v us Q I rx rxs h
  obtain ⟨a, ys, y, j, z, rfl, rfl, hs, fy, fys, hz, hzj, hno, q⟩ := h
  cases rx
  cases rxs with
  | cons ry rt =>
    rename_i uy ut
    cases rt
    obtain ⟨its, rv, ⟨⟨cls, dd, data, sl⟩, n, ho, hc, hdn, hd⟩, hlen⟩ := I.list hs
    simp only at hc hd
    subst hc hd
    obtain ⟨u, hu, ru⟩ := rv.get hz
    obtain ⟨hjl, hje⟩ := List.getElem?_eq_some_iff.mp hu
    have hvl := rv.length
    have hj : j < its.toArray.size := by simpa using hjl
    have hsl := sizeLine_eq
    refine call_meets PySem.F.slot_list_index ⟨_, ho, rfl⟩ PySem.F.entry_list_index (PySem.F.args_list_index_2 _ _)
      (SeqAt.list_indexAt a its.toArray n dd sl uy (eqU y) j hj (by omega) ?_ ?_) ⟨ho, fun u' hu' => mem_eqAt ry fy rv fys u' (by simpa using hu'), ?_⟩
    · have e1 : its.toArray[j] = u := by simpa using hje
      rw [e1, eqU_of ru (flat_at fys hz)]
      exact hzj
    · intro m hm hmj
      have hml : m < its.length := by simpa using hm
      have hmy : m < ys.length := by omega
      have hy' : ys[m]? = some ys[m] := List.getElem?_eq_getElem hmy
      obtain ⟨u2, hu2, ru2⟩ := rv.get hy'
      obtain ⟨_, hme⟩ := List.getElem?_eq_some_iff.mp hu2
      have e1 : its.toArray[m] = u2 := by simpa using hme
      rw [e1, eqU_of ru2 (flat_at fys hy')]
      exact hno m _ hmj hy'
    · exact ⟨.int (j : Nat), H, I.tok _, ⟨_, rfl⟩, q⟩
end

/-! ### type(x) of an own instance; is, is not of a module's class -/
section
variable {X : Cx}
end

section
variable {X : Cx}
end

/-! ### == and != of data at any depth: none, bools, ints, texts, lists, tuples -/
mutual
inductive Dp (K : PySem.W.Frag) (H : Hp) : V → PyData → Prop
  | non : Dp K H .non .none
  | bl (b : Bool) : Dp K H (.bl b) (.bool b)
  | int (i : Int) : Dp K H (.int i) (.int i)
  | str (x : Str) : Dp K H (.str x) (.str x)
  | lst {a : Addr} {xs : List V} {ds : List PyData} : SqL K H a xs → DpAll K H xs ds → Dp K H (.ref a) (.list ds)
  | tup {a : Addr} {xs : List V} {ds : List PyData} : SqT K H a xs → DpAll K H xs ds → Dp K H (.ref a) (.tuple ds)
inductive DpAll (K : PySem.W.Frag) (H : Hp) : List V → List PyData → Prop
  | nil : DpAll K H [] []
  | cons {v : V} {vs : List V} {d : PyData} {ds : List PyData} : Dp K H v d → DpAll K H vs ds → DpAll K H (v :: vs) (d :: ds)
end
section
variable {X : Cx} {pins : List (Addr × Obj)} {σ : St} {H : Hp} {s : Shared}
mutual
theorem Dp.reads (I : Inv X pins σ H s) : ∀ (d : PyData) (v : V) (u : Value), Dp X.K H v d → RelV v u → ∃ as, Reads s.heap u d as
  | .none, _, _, h, r => by
    cases h
    cases r
    exact ⟨_, Reads.none⟩
  | .bool b, _, _, h, r => by
    cases h
    cases r
    exact ⟨_, Reads.bool b⟩
  | .int i, _, _, h, r => by
    cases h
    obtain ⟨t, rfl⟩ := r
    exact ⟨_, Reads.int i t⟩
  | .str x, _, _, h, r => by
    cases h
    obtain ⟨t, rfl⟩ := r
    exact ⟨_, Reads.str x t⟩
  | .list ds, _, _, h, r => by
    cases h with
    | lst hs ha =>
      cases r
      obtain ⟨its, rv, ⟨o, n, ho, hc, _, hd⟩, _⟩ := I.list hs
      obtain ⟨as, hr⟩ := Dp.readsAll I ds _ its ha rv
      exact ⟨_, Reads.list ho hc hd hr⟩
  | .tuple ds, _, _, h, r => by
    cases h with
    | tup hs ha =>
      cases r
      obtain ⟨its, rv, ⟨o, ho, hc, n, hd⟩, _⟩ := I.tuple hs
      obtain ⟨as, hr⟩ := Dp.readsAll I ds _ its ha rv
      exact ⟨_, Reads.tuple ho hc hd hr⟩
  | .dict _, _, _, h, _ => by cases h
theorem Dp.readsAll (I : Inv X pins σ H s) : ∀ (ds : List PyData) (vs : List V) (us : List Value), DpAll X.K H vs ds → Vals vs us → ∃ as, ReadsAll s.heap us ds as
  | [], _, _, h, r => by
    cases h
    cases r
    exact ⟨_, ReadsAll.nil⟩
  | d :: ds, _, _, h, r => by
    cases h with
    | cons h1 h2 =>
      cases r with
      | cons r1 r2 =>
        obtain ⟨as, q1⟩ := Dp.reads I d _ _ h1 r1
        obtain ⟨bs, q2⟩ := Dp.readsAll I ds _ _ h2 r2
        exact ⟨_, ReadsAll.cons q1 q2⟩
end
end
section
variable {X : Cx}
end
end L2

namespace L2
open PySem PySem.Spec PyProof.Rows
abbrev CellAt (h : Heap) (c : Addr) (v : Option Value) : Prop := h.IsCell c v
def relS (scope sc : Scope) : Scope :=
  { scope with names := scope.names.map fun (n, k) => if (k == .free && sc.kind == .function && sc.names.lookup n == some .cell) then (n, .cell) else (n, k) }

def cloFrom (cells : List (Str × Addr)) : List (Str × NameKind) → List (Str × Addr) → List (Str × Addr)
  | [], acc => acc
  | (n, k) :: r, acc => if k == .free then cloFrom cells r ((n, (cells.lookup n).getD 0) :: acc) else cloFrom cells r acc

theorem closure_loop (env : Env) (f : Str × NameKind → List (Str × Addr) → Sem (ForInStep (List (Str × Addr))))
    (hf : ∀ n k c, f (n, k) c = if k == .free then (do let a ← cellOf env n; pure (.yield ((n, a) :: c))) else pure (.yield c)) :
    ∀ (names : List (Str × NameKind)) (acc : List (Str × Addr)), (∀ y ∈ names, y.2 = .free → ∃ c, env.cells.lookup y.1 = some c) → forIn names acc f = pure (cloFrom env.cells names acc)
  | [], acc, _ => by rw [List.forIn_nil]; rfl
  | (n, k) :: r, acc, h => by
    rw [List.forIn_cons, hf]
    have ih := fun acc => closure_loop env f hf r acc fun y hy => h y (List.mem_cons_of_mem _ hy)
    unfold cloFrom
    by_cases hk : (k == NameKind.free) = true
    · rw [if_pos hk, if_pos hk]
      obtain ⟨c, hc⟩ := h (n, k) List.mem_cons_self (by simpa using hk)
      have e : cellOf env n = pure c := by unfold cellOf; rw [hc]
      rw [e]
      have e2 : (env.cells.lookup n).getD 0 = c := by rw [hc]; rfl
      rw [e2]
      exact ih _
    · rw [if_neg hk, if_neg hk]
      exact ih _
theorem closure_ok {scope : Scope} {env : Env} (h : ∀ y ∈ scope.names, y.2 = .free → ∃ c, env.cells.lookup y.1 = some c) : closureFor scope env = pure (cloFrom env.cells scope.names []) := by
  simp only [closureFor]
  rw [closure_loop env _ (fun n k c => rfl) scope.names [] h]
  rfl

theorem mem_lookup {α : Type} : ∀ {l : List (Str × α)} {n : Str} {c : α}, (n, c) ∈ l → ∃ c', l.lookup n = some c'
  | (k, v) :: r, n, c, h => by
    rw [List.lookup_cons]
    cases hb : n == k with
    | true => exact ⟨_, rfl⟩
    | false =>
      rcases List.mem_cons.mp h with e | h
      · cases e; simp at hb
      · exact mem_lookup h

theorem cloFrom_mem {cells : List (Str × Addr)} : ∀ {names : List (Str × NameKind)} {acc : List (Str × Addr)} {n : Str} {c : Addr}, (n, c) ∈ cloFrom cells names acc → (n, c) ∈ acc ∨ ((n, .free) ∈ names ∧ c = (cells.lookup n).getD 0)
  | [], _, _, _, h => .inl h
  | (m, k) :: r, acc, n, c, h => by
    unfold cloFrom at h
    split at h
    · rename_i hk
      have hk : k = .free := by simpa using hk
      rcases cloFrom_mem h with h | ⟨h1, h2⟩
      · rcases List.mem_cons.mp h with e | h
        · cases e; exact .inr ⟨hk ▸ List.mem_cons_self, rfl⟩
        · exact .inl h
      · exact .inr ⟨List.mem_cons_of_mem _ h1, h2⟩
    · rcases cloFrom_mem h with h | ⟨h1, h2⟩
      · exact .inl h
      · exact .inr ⟨List.mem_cons_of_mem _ h1, h2⟩
theorem cloFrom_acc {cells : List (Str × Addr)} : ∀ {names : List (Str × NameKind)} {acc : List (Str × Addr)} {p : Str × Addr}, p ∈ acc → p ∈ cloFrom cells names acc
  | [], _, _, h => h
  | (m, k) :: r, acc, p, h => by
    unfold cloFrom
    split
    · exact cloFrom_acc (List.mem_cons_of_mem _ h)
    · exact cloFrom_acc h
theorem cloFrom_has {cells : List (Str × Addr)} : ∀ {names : List (Str × NameKind)} {acc : List (Str × Addr)} {n : Str}, (n, .free) ∈ names → (n, (cells.lookup n).getD 0) ∈ cloFrom cells names acc
  | (m, k) :: r, acc, n, h => by
    unfold cloFrom
    rcases List.mem_cons.mp h with e | h
    · cases e
      exact cloFrom_acc List.mem_cons_self
    · split
      · exact cloFrom_has h
      · exact cloFrom_has h

theorem cells_mem : ∀ {names : List (Str × NameKind)} {h : Heap} {acc : List (Str × Addr)} {x : Str} {c : Addr}, (x, c) ∈ cellsFrom h.objs.size names acc →
    (x, c) ∈ acc ∨ ((x, .cell) ∈ names ∧ h.objs.size ≤ c ∧ CellAt (pushCells h names) c none)
  | [], _, _, _, _, h => .inl h
  | (n, k) :: r, h, acc, x, c, hm => by
    unfold cellsFrom at hm
    unfold pushCells
    split at hm
    · rename_i hk
      rw [if_pos hk]
      have hk : k = .cell := by simpa using hk
      rw [← Heap.size_push h { cls := .type "cell", data := .cell none }] at hm
      rcases cells_mem hm with hm | ⟨h1, h2, h3⟩
      · rcases List.mem_cons.mp hm with e | hm
        · cases e
          exact .inr ⟨hk ▸ List.mem_cons_self, Nat.le_refl _, _, pushCells_keeps r _ _ _ (Heap.get?_push_size _ rfl), rfl⟩
        · exact .inl hm
      · rw [Heap.size_push] at h2
        exact .inr ⟨List.mem_cons_of_mem _ h1, Nat.le_of_succ_le h2, h3⟩
    · rename_i hk
      rw [if_neg hk]
      rcases cells_mem hm with hm | ⟨h1, h2, h3⟩
      · exact .inl hm
      · exact .inr ⟨List.mem_cons_of_mem _ h1, h2, h3⟩
theorem cells_acc : ∀ {names : List (Str × NameKind)} {n : Nat} {acc : List (Str × Addr)} {p : Str × Addr}, p ∈ acc → p ∈ cellsFrom n names acc
  | [], _, _, _, h => h
  | (m, k) :: r, n, acc, p, h => by
    unfold cellsFrom
    split
    · exact cells_acc (List.mem_cons_of_mem _ h)
    · exact cells_acc h
theorem cells_has : ∀ {names : List (Str × NameKind)} {n : Nat} {acc : List (Str × Addr)} {x : Str}, (x, .cell) ∈ names → ∃ c, (x, c) ∈ cellsFrom n names acc
  | (m, k) :: r, n, acc, x, h => by
    unfold cellsFrom
    rcases List.mem_cons.mp h with e | h
    · cases e
      exact ⟨n, cells_acc List.mem_cons_self⟩
    · split
      · exact cells_has h
      · exact cells_has h
theorem cells_inj : ∀ {names : List (Str × NameKind)} {h : Heap} {acc : List (Str × Addr)} {x y : Str} {c : Addr}, (∀ p ∈ acc, p.2 < h.objs.size) → (∀ x y c, (x, c) ∈ acc → (y, c) ∈ acc → x = y) →
    (x, c) ∈ cellsFrom h.objs.size names acc → (y, c) ∈ cellsFrom h.objs.size names acc → x = y
  | [], _, _, _, _, _, _, hi, h1, h2 => hi _ _ _ h1 h2
  | (n, k) :: r, h, acc, x, y, c, hl, hi, h1, h2 => by
    unfold cellsFrom at h1 h2
    split at h1
    · rename_i hk
      rw [if_pos hk] at h2
      rw [← Heap.size_push h { cls := .type "cell", data := .cell none }] at h1 h2
      refine cells_inj (h := h.push _) (fun p hp => ?_) (fun x y c a b => ?_) h1 h2
      · rw [Heap.size_push]
        rcases List.mem_cons.mp hp with rfl | hp
        · exact Nat.lt_succ_self _
        · exact Nat.lt_succ_of_lt (hl p hp)
      · rcases List.mem_cons.mp a with e | a <;> rcases List.mem_cons.mp b with e' | b
        · cases e; cases e'; rfl
        · cases e; exact absurd (hl _ b) (Nat.lt_irrefl _)
        · cases e'; exact absurd (hl _ a) (Nat.lt_irrefl _)
        · exact hi _ _ _ a b
    · rename_i hk
      rw [if_neg hk] at h2
      exact cells_inj hl hi h1 h2

theorem newEnv_comp {M : Model} {A : Around} {E : Value → Shared → Prop} {s : Shared} {scope : Scope} {globals : Addr} {closure : List (Str × Addr)} {qual : Str} {func : Option Addr} {code : Value} {around : Env} {builtins : Addr} {Q : Env → Shared → Prop}
    (h : Q (newEnv scope s.heap.objs.size globals (cellsFrom (s.heap.objs.size + 1) scope.names closure) qual func code (some around) builtins)
      { s with heap := pushCells (s.heap.push { cls := .type "dict", data := .dict #[] }) scope.names }) :
    wpAny M A (newFunctionEnv scope globals closure [] qual func code (some around) builtins) Q E s := by
  simp only [newFunctionEnv, Option.isSome_some, if_true]
  refine wpAny_bind (wpAny_alloc ?_)
  refine wpAny_bind (wpAny_layCells _ (fun n k c => rfl) scope.names closure _ _ ?_)
  rw [show ({ s with heap := s.heap.push { cls := .type "dict", data := .dict #[] } } : Shared).heap.objs.size = s.heap.objs.size + 1 from Heap.size_push ..]
  rw [List.forIn_nil]
  exact wpAny_bind (wpAny_pure (wpAny_pure h))

/-- every name of the written scope, in the scope that runs -/
theorem lookup_relS {sc : Scope} : ∀ {names : List (Str × NameKind)} {x : Str} {k : NameKind},
    (names.map fun (n, k) => if (k == NameKind.free && sc.kind == .function && sc.names.lookup n == some .cell) then (n, NameKind.cell) else (n, k)).lookup x = some k →
    ∃ k', names.lookup x = some k' ∧ (k = k' ∨ (k' = .free ∧ k = .cell))
  | [], _, _, h => by simp at h
  | (n, k₀) :: r, x, k, h => by
    have ih := @lookup_relS sc r x k
    have h' : List.lookup x ((if (k₀ == NameKind.free && sc.kind == .function && sc.names.lookup n == some .cell) = true then (n, NameKind.cell) else (n, k₀)) :: (r.map _)) = some k := h
    cases hx : x == n with
    | true =>
      simp only [List.lookup_cons, hx]
      by_cases hc : (k₀ == NameKind.free && sc.kind == .function && sc.names.lookup n == some .cell) = true
      · rw [if_pos hc] at h'
        simp only [List.lookup_cons, hx] at h'
        cases h'
        simp only [Bool.and_eq_true, beq_iff_eq] at hc
        exact ⟨k₀, rfl, .inr ⟨hc.1.1, rfl⟩⟩
      · rw [if_neg hc] at h'
        simp only [List.lookup_cons, hx] at h'
        cases h'
        exact ⟨_, rfl, .inl rfl⟩
    | false =>
      simp only [List.lookup_cons, hx]
      by_cases hc : (k₀ == NameKind.free && sc.kind == .function && sc.names.lookup n == some .cell) = true
      · rw [if_pos hc] at h'
        simp only [List.lookup_cons, hx] at h'
        exact ih h'
      · rw [if_neg hc] at h'
        simp only [List.lookup_cons, hx] at h'
        exact ih h'
/-- the names of a comprehension's block: its own (with their places in N), or captured -/
structure BlkOk (N : List Str) (sc scope : Scope) (own : List (Str × Nat)) : Prop where
  kind : scope.kind = .function
  uniq : ∀ y ∈ scope.names, scope.names.lookup y.1 = some y.2
  ix : ∀ p ∈ own, N[p.2]? = some p.1
  free : ∀ y ∈ scope.names, y.2 = .free → sc.names.lookup y.1 = some .cell ∨ sc.names.lookup y.1 = some .free
  own : ∀ y ∈ scope.names, y.2 = .local ∨ y.2 = .cell → y.1 ∈ own.map (·.1) ∨ y.1 ∉ N
/-- the slots of the block's own names forgotten -/
def wipe (σ : St) : List Nat → St
  | [] => σ
  | v :: vs => (wipe σ vs).set v none
theorem wipe_length (σ : St) : ∀ vs : List Nat, (wipe σ vs).length = σ.length
  | [] => rfl
  | v :: vs => by unfold wipe; rw [List.length_set, wipe_length σ vs]
theorem wipe_some {σ : St} {i : Nat} {x : V} : ∀ {vs : List Nat}, (wipe σ vs)[i]? = some (some x) → σ[i]? = some (some x) ∧ i ∉ vs
  | [], h => ⟨h, by simp⟩
  | v :: vs, h => by
    unfold wipe at h
    by_cases hi : v = i
    · subst hi
      by_cases hv : v < (wipe σ vs).length
      · rw [List.getElem?_set_self hv] at h; cases h
      · rw [List.getElem?_eq_none (by simpa using hv)] at h; cases h
    · rw [List.getElem?_set_ne hi] at h
      obtain ⟨h1, h2⟩ := wipe_some h
      exact ⟨h1, by simp only [List.mem_cons, not_or]; exact ⟨fun e => hi e.symm, h2⟩⟩

/-- the context of a block that starts at s, its iterator's objects at fp -/
abbrev Cx.blk (X : Cx) (s : Shared) (H : Hp) (scope : Scope) (cenv : Env) (fp : List Addr) : Cx := { X with s_0 := s, H_0 := H, env := cenv, outer := X.stack, ex := fp, fn := fun x => scope.names.lookup x == some .cell, pn := [], xe := fun _ _ => False }
section
variable {X : Cx} {pins : List (Addr × Obj)} {σ : St} {H : Hp} {s : Shared}
theorem block_start {scope : Scope} {own : List (Str × Nat)} {fp : List Addr} (I : Inv X pins σ H s) (ok : BlkOk X.N X.env.scope scope own) (hN : X.N.Nodup) (hfp : ∀ b ∈ fp, FpOk X pins H b ∧ b < s.heap.objs.size) :
    Inv (X.blk s H scope (compEnvC scope (cellsFrom (s.heap.objs.size + 1) scope.names (cloFrom X.env.cells scope.names [])) s.heap.objs.size X.env) fp) [] (wipe σ (own.map (·.2))) H { s with heap := pushCells (s.heap.push { cls := .type "dict", data := .dict #[] }) scope.names } := by
  have hfree : ∀ y ∈ scope.names, y.2 = .free → ∃ c, X.env.cells.lookup y.1 = some c := fun y hy e => by
    rcases ok.free y hy e with k | k
    · exact I.ok.has _ (.inl k)
    · exact I.ok.has _ (.inr k)
  generalize hcenv : compEnvC scope (cellsFrom (s.heap.objs.size + 1) scope.names (cloFrom X.env.cells scope.names [])) s.heap.objs.size X.env = cenv
  have kp : ∀ b o, s.heap.get? b = some o → (pushCells (s.heap.push { cls := .type "dict", data := .dict #[] }) scope.names).get? b = some o := fun b o e => pushCells_keeps _ _ _ _ (Heap.get?_push_of_some _ e)
  have hL : cenv.locals = s.heap.objs.size := by rw [← hcenv]; rfl
  have hcl : cenv.cells = cellsFrom (s.heap.objs.size + 1) scope.names (cloFrom X.env.cells scope.names []) := by rw [← hcenv]; rfl
  have hsc : cenv.scope = relS scope X.env.scope := by rw [← hcenv]; rfl
  rw [← Heap.size_push s.heap { cls := .type "dict", data := .dict #[] }] at hcl
  have cm : ∀ {y c}, (y, c) ∈ cloFrom X.env.cells scope.names [] → X.env.cells.lookup y = some c ∧ c < s.heap.objs.size := fun {y c} hm => by
    rcases cloFrom_mem hm with hm | ⟨h1, rfl⟩
    · cases hm
    · obtain ⟨c, hc⟩ := hfree _ h1 rfl
      rw [hc]
      obtain ⟨w, z⟩ := I.cell _ _ hc
      exact ⟨rfl, z.lt⟩
  have mem : ∀ {y c}, cenv.cells.lookup y = some c → (X.env.cells.lookup y = some c ∧ c < s.heap.objs.size) ∨ (s.heap.objs.size + 1 ≤ c ∧ CellAt (pushCells (s.heap.push { cls := .type "dict", data := .dict #[] }) scope.names) c none) := fun {y c} e => by
    rw [hcl] at e
    rcases cells_mem (PySem.mem_of_lookup e) with hm | ⟨_, h2, h3⟩
    · exact .inl (cm hm)
    · rw [Heap.size_push] at h2; exact .inr ⟨h2, h3⟩
  have look : ∀ {y}, scope.names.lookup y = some .free → ∃ c, cenv.cells.lookup y = some c ∧ X.env.cells.lookup y = some c := fun {y} hl => by
    have hy : (y, NameKind.free) ∈ scope.names := PySem.mem_of_lookup hl
    obtain ⟨c', e'⟩ := mem_lookup (cells_acc (names := scope.names) (n := (s.heap.push { cls := .type "dict", data := .dict #[] }).objs.size) (cloFrom_has (cells := X.env.cells) (acc := []) hy))
    rw [← hcl] at e'
    refine ⟨c', e', ?_⟩
    rw [hcl] at e'
    rcases cells_mem (PySem.mem_of_lookup e') with hm | ⟨h1, _, _⟩
    · exact (cm hm).1
    · have := ok.uniq _ h1
      rw [hl] at this; cases this
  have okB : (X.blk s H scope cenv fp).Ok := by
    refine ⟨I.ok.mod, by show cenv.scope.kind = _; rw [hsc]; exact ok.kind, by show cenv.globals = _; rw [← hcenv]; exact I.ok.glob, by show cenv.builtins = _; rw [← hcenv]; exact I.ok.blt, by show s.heap.objs.size ≤ cenv.locals; rw [hL]; exact Nat.le_refl _,
      fun y z c e1 e2 => ?_, fun y hy => ?_, fun y c z e => ?_, I.ok.hd, I.ok.frames, .inl rfl, fun b hb => ⟨?_, fun y c e z => ?_⟩, I.bs, Nat.le_trans I.ok.bsz I.sz, fun b o e hb => ?_, fun b hb z => ?_, I.stack, I.stkFree⟩
    · have e1 : cenv.cells.lookup y = some c := e1
      have e2 : cenv.cells.lookup z = some c := e2
      rw [hcl] at e1 e2
      refine cells_inj (fun p hp => ?_) (fun y z c a b => I.ok.inj y z c (cm a).1 (cm b).1) (PySem.mem_of_lookup e1) (PySem.mem_of_lookup e2)
      rw [Heap.size_push]
      exact Nat.lt_succ_of_lt (cm (y := p.1) (c := p.2) hp).2
    · show ∃ c, cenv.cells.lookup y = some c
      have key : ∀ k, cenv.kindOf y = some k → (k = .cell ∨ k = .free) → ∃ c, cenv.cells.lookup y = some c := fun k hk hk' => by
        unfold Env.kindOf at hk
        rw [hsc] at hk
        obtain ⟨k', e, r⟩ := lookup_relS hk
        have : k' = .cell ∨ k' = .free := by
          rcases r with rfl | ⟨rfl, _⟩
          · exact hk'
          · exact .inr rfl
        rcases this with rfl | rfl
        · obtain ⟨c, hm⟩ := cells_has (n := (s.heap.push { cls := .type "dict", data := .dict #[] }).objs.size) (acc := cloFrom X.env.cells scope.names []) (PySem.mem_of_lookup e)
          obtain ⟨c', e'⟩ := mem_lookup hm
          exact ⟨c', by rw [hcl]; exact e'⟩
        · obtain ⟨c, h1, _⟩ := look e
          exact ⟨c, h1⟩
      rcases hy with hy | hy
      · exact key _ hy (.inl rfl)
      · exact key _ hy (.inr rfl)
    · have z : (scope.names.lookup y == some NameKind.cell) = true := z
      have z : scope.names.lookup y = some .cell := by simpa using z
      have e : cenv.cells.lookup y = some c := e
      rw [hcl] at e
      rcases cells_mem (PySem.mem_of_lookup e) with hm | ⟨_, h2, _⟩
      · rcases cloFrom_mem hm with hm | ⟨h1, _⟩
        · cases hm
        · have q := ok.uniq _ h1
          rw [z] at q; cases q
      · rw [Heap.size_push] at h2
        exact Nat.le_of_succ_le h2
    · show b ≠ cenv.locals
      rw [hL]; exact Nat.ne_of_lt (hfp b hb).2
    · have e : cenv.cells.lookup y = some c := e
      rcases mem e with ⟨h1, _⟩ | ⟨h1, _⟩
      · exact (hfp b hb).1.2.2.2.2.1 y c h1 z
      · have h2 : s.heap.objs.size + 1 ≤ b := by rw [← z]; exact h1
        exact absurd (Nat.lt_of_lt_of_le (hfp b hb).2 (Nat.le_of_succ_le h2)) (Nat.lt_irrefl _)
    · rcases (hfp b hb).1.2.2.2.1 with z | z
      · exact I.ok.noex b o e z
      · exact absurd (Nat.lt_of_lt_of_le (Heap.lt_size e) (Nat.le_trans I.ok.bsz z)) (Nat.lt_irrefl _)
    · rcases List.mem_cons.mp (I.stkSub b z) with z | z
      · exact (hfp b hb).1.2.1 z
      · exact (hfp b hb).1.2.2.1 z
  refine ⟨okB, rfl, I.bare, Un.kept kp, ⟨fun _ => none, ?_, fun i y av e1 e2 e3 => ?_⟩, fun y c e => ?_, ?_, fun y c e => ?_, fun p hp => ?_, I.hok.kept kp, by rw [wipe_length]; exact I.len⟩
  · show Heap.Ns _ cenv.locals _
    rw [hL]
    exact Heap.Ns.keeps (Heap.Ns.new ..) fun b o e => pushCells_keeps _ _ _ _ e
  · obtain ⟨e2, hne⟩ := wipe_some e2
    have hfr : scope.names.lookup y = some .free ∧ (cenv.kindOf y = some .cell ∨ cenv.kindOf y = some .free) := by
      have key : ∀ k, cenv.scope.names.lookup y = some k → k = .local ∨ k = .cell ∨ k = .free → scope.names.lookup y = some .free ∧ (cenv.kindOf y = some .cell ∨ cenv.kindOf y = some .free) := fun k hk hk' => by
        have hk0 := hk
        rw [hsc] at hk
        obtain ⟨k', e, r⟩ := lookup_relS hk
        have no : ¬ (k' = .local ∨ k' = .cell) := fun hh => by
          rcases ok.own _ (PySem.mem_of_lookup e) hh with e' | e'
          · obtain ⟨p, hp, hpy⟩ := List.mem_map.mp e'
            have e3 := ok.ix p hp
            have : p.1 = y := hpy
            rw [this] at e3
            exact hne (List.mem_map.mpr ⟨p, hp, nodup_ix hN e3 e1⟩)
          · exact e' (List.mem_of_getElem? e1)
        rcases r with rfl | ⟨rfl, rfl⟩
        · rcases hk' with rfl | rfl | rfl
          · exact absurd (.inl rfl) no
          · exact absurd (.inr rfl) no
          · exact ⟨e, .inr hk0⟩
        · exact ⟨e, .inl hk0⟩
      have e3 : Vis cenv.scope y := e3
      rcases e3 with e3 | e3 | e3
      · exact key _ e3 (.inl rfl)
      · exact key _ e3 (.inr (.inl rfl))
      · exact key _ e3 (.inr (.inr rfl))
    obtain ⟨m, hn, hl⟩ := I.loc
    have hvis : Vis X.env.scope y := (ok.free _ (PySem.mem_of_lookup hfr.1) rfl).elim (fun k => .inr (.inl k)) (fun k => .inr (.inr k))
    obtain ⟨w, r, q⟩ := hl i y av e1 e2 hvis
    refine ⟨w, r, .inr ⟨hfr.2, ?_⟩⟩
    obtain ⟨c, h1, h2⟩ := look hfr.1
    rcases q with ⟨k, _⟩ | ⟨_, c', e', z⟩
    · have k : X.env.scope.names.lookup y = some .local := k
      rcases ok.free _ (PySem.mem_of_lookup hfr.1) rfl with k' | k' <;> rw [show X.env.scope.names.lookup y = _ from k'] at k <;> cases k
    · rw [h2] at e'; cases e'
      exact ⟨c, h1, z.keeps kp⟩
  · have e : cenv.cells.lookup y = some c := e
    rcases mem e with ⟨h1, _⟩ | ⟨_, z⟩
    · obtain ⟨w, z⟩ := I.cell y c h1
      exact ⟨w, z.keeps kp⟩
    · exact ⟨_, z⟩
  · show H cenv.locals = none
    rw [hL]; exact I.hok.fresh (Nat.le_refl _)
  · have e : cenv.cells.lookup y = some c := e
    rcases mem e with ⟨h1, _⟩ | ⟨h1, _⟩
    · exact I.freeC y c h1
    · exact I.hok.fresh (Nat.le_of_succ_le h1)
  · exact absurd (show p ∈ ([] : List (Addr × Obj)) ++ [] from hp) (by simp)

/-- an item appended to a tracked list -/
theorem app_ok {E : Value → Shared → Prop} {D : Addr} {xs : List V} {y : V} {v : Value} {Q : Value → Shared → Prop} (I : Inv X pins σ H s) (hD : H D = some (.lst xs)) (hz : xs.length < sizeLine) (r : RelV y v)
    (h : ∀ s', Inv X pins σ (upd H D (.lst (xs ++ [y]))) s' → Q .none s') : wpAny (model X.prog X.w) X.A (call (.builtin "list.append") [.ref D, v]) Q E s := by
  obtain ⟨hz', its, n, ri, e⟩ := I.hok D _ hD
  have hl := ri.length
  refine append_at (hsz := by rw [List.size_toArray]; omega) e fun h' sb ho' => ?_
  refine h { s with heap := h' } (I.write (t' := s.toks) (by rw [hD]; trivial) (.inl rfl) (fun b u hb q => (sb.2 b hb).trans q) ⟨_, ho'⟩ ⟨by rw [List.length_append]; exact hz, its ++ [v], n + 1, ri.append (.cons r .nil), ?_⟩)
  rw [ho']
  simp

/-- a clause's tests -/
def PTs (X : Cx) (ifs : List Expr) (t : TT) : Prop :=
  ∀ (pins : List (Addr × Obj)) (s : Shared) (σ : St) (H : Hp) (Q : Bool → Hp → Prop), Inv X pins σ H s → t σ H Q →
    wpAny (model X.prog X.w) X.A (forIn ifs true fun c r => if r = true then do let ok ← isTrue c X.env (eval c X.env); pure (ForInStep.yield ok) else pure (ForInStep.yield r)) (TP X pins σ Q) X.xe s
def tYes : TT := fun _ H Q => Q true H
theorem pts_nil : PTs X [] tYes := fun _ _ _ H _ I h => wpAny_tests_nil ⟨H, I, h⟩
end

theorem thnF {α : Type} {t : Sem α} {Q Q' : α → Shared → Prop} {M : Model} {A : Around} {E : Value → Shared → Prop} {s : Shared} (h : wpAny M A t Q (fun _ _ => False) s) (hQ : ∀ a s, Q a s → Q' a s) : wpAny M A t Q' E s := wpAny_mono h hQ fun _ _ z => False.elim z

/-- the loop of a list comprehension's block, the target of any form (codeAny_compLoop_tests asks a target that no tuple goes to; statement and proof follow it, PyProof/CompMap.lean:41-61, with the step letOwnedTupleGo kept) -/
theorem compLoop_any {prog : Program} {w : World} {A : Around} {R : Result → Shared → Prop} {s : Shared} {elt target iter : Expr} {ifs : List Expr} {scope : Scope} {pos : Pos} {it acc : Value} {env : Env} (I : Nat → Shared → Prop)
    (turn : ∀ n s, I n s → wpAny (model prog w) A (pyNext it) (fun r s₁ => match r with
      | none => R (.ok .next) s₁
      | some v => wpAny (model prog w) A (letOwnedTupleGo target it v) (fun _ s₁' => wpAny (model prog w) A (assign target env v) (fun _ s₂ =>
          wpAny (model prog w) A (forIn ifs true fun c r => if r = true then do let ok ← isTrue c env (eval c env); pure (ForInStep.yield ok) else pure (ForInStep.yield r)) (fun ok s₃ =>
            if ok = true then wpAny (model prog w) A (eval elt env) (fun x s₄ =>
              wpAny (model prog w) A (call (.builtin "list.append") [acc, x]) (fun _ s₅ => ∃ m, m < n ∧ I m s₅) (notedBy (model prog w) A env fun e s' => R (.error e) s') s₄) (notedBy (model prog w) A env fun e s' => R (.error e) s') s₃
            else ∃ m, m < n ∧ I m s₃) (notedBy (model prog w) A env fun e s' => R (.error e) s') s₂) (notedBy (model prog w) A env fun e s' => R (.error e) s') s₁') (notedBy (model prog w) A env fun e s' => R (.error e) s') s₁) (notedBy (model prog w) A env fun e s' => R (.error e) s') s)
    (n : Nat) (h : I n s) :
    codeAny (model prog w) A (.compLoop (.ListComp elt [⟨target, iter, ifs, 0⟩] scope pos) 0 it acc env) R s := by
  refine codeAny_loop rfl I (fun n s hI => ?_) n h
  show wpAny _ A ((compTurn (.ListComp elt [⟨target, iter, ifs, 0⟩] scope pos) 0 it acc env).onRaise (fun x => do noteFrame x env; theTreesLotGoes x)) _ _ s
  refine wpAny_noted ?_
  rw [compTurn_list]
  refine wpAny_bind (wpAny_standAt (wpAny_bind (wpAny_mono (turn n s hI) (fun r s₁ h₁ => ?_) fun _ _ h' => h')))
  cases r with
  | none => exact wpAny_pure h₁
  | some v =>
    refine wpAny_bind (wpAny_mono h₁ (fun _ s₁' h₁' => ?_) fun _ _ h' => h')
    refine wpAny_bind (wpAny_mono h₁' (fun _ s₂ h₂ => wpAny_bind (wpAny_mono h₂ (fun ok s₃ h₃ => ?_) fun _ _ h' => h')) fun _ _ h' => h')
    cases ok with
    | false => exact wpAny_pure ⟨rfl, h₃⟩
    | true =>
      exact wpAny_bind (wpAny_bind (wpAny_mono h₃ (fun x s₄ h₄ => wpAny_bind (wpAny_mono h₄ (fun _ s₅ h₅ => wpAny_pure (wpAny_pure ⟨rfl, h₅⟩)) fun _ _ h' => h')) fun _ _ h' => h'))

section
variable {X : Cx}
/-- [elt for target in iter if ..]: D the new list; W by the turn and a measure, Nx what a turn is to reach -/
def tLc (wi : TI) (g : TG) (tt : TT) (te : TE) (vs : List Nat) : TE := fun σ H Q => wi σ H fun J H1 => ∀ D, H1 D = none → ∃ W : Nat → Nat → Hp → Prop, (∃ m, W 0 m (upd H1 D (.lst []))) ∧ ∀ i m H, W i m H →
  (J.stop i H ∧ Q (.ref D) H) ∨ (J.go i H ∧ ∃ Nx : Hp → Prop, (∀ H', Nx H' → ∃ m', m' < m ∧ W (i + 1) m' H') ∧ ∀ x H', J.yld i H x H' → g x (wipe σ vs) H' fun σ2 H2 => wipe σ2 vs = wipe σ vs ∧ tt σ2 H2 fun b H3 =>
    if b = true then te σ2 H3 fun y H4 => ∃ acc, H4 D = some (.lst acc) ∧ acc.length < sizeLine ∧ Nx (upd H4 D (.lst (acc ++ [y]))) else Nx H3)
theorem lc_core {pins : List (Addr × Obj)} {s : Shared} {σ : St} {H : Hp} {Q : VK} {elt tg iter : Expr} {ifs : List Expr} {scope : Scope} {own : List (Str × Nat)} {pos pos' : Pos} {wi : TI} {g : TG} {tt : TT} {te : TE} {use : Option (Value → Sem Unit)} {Qf : Value → Shared → Prop}
    (hc : X.calm = true) (hN : X.N.Nodup) (I : Inv X pins σ H s) (hi : PI X tg iter wi) (ok : BlkOk X.N X.env.scope scope own)
    (hg : ∀ (s : Shared) (H : Hp) (C : Addr) (cl : List (Str × Addr)) (fp : List Addr), PG (X.blk s H scope (compEnvC scope cl C X.env) fp) tg g) (ht : ∀ (s : Shared) (H : Hp) (C : Addr) (cl : List (Str × Addr)) (fp : List Addr), PTs (X.blk s H scope (compEnvC scope cl C X.env) fp) ifs tt)
    (he : ∀ (s : Shared) (H : Hp) (C : Addr) (cl : List (Str × Addr)) (fp : List Addr), PE (X.blk s H scope (compEnvC scope cl C X.env) fp) elt te) (hs : ∀ x, foldedSetIterable iter X.env x = pure x)
    (h : tLc wi g tt te (own.map (·.2)) σ H Q)
    (hRR : ∀ D C s' m H', Inv X pins σ H' s' → Q (.ref D) H' → s'.heap.Ns C m → FpOk X pins H' C → compPost (model X.prog X.w) X.A X.xe use Qf (.ref D) C (.ok .next) s') :
    wpAny (model X.prog X.w) X.A (comprehension (.ListComp elt [⟨tg, iter, ifs, 0⟩] scope pos) scope X.env pos' (newList []) false (eval iter X.env) use) Qf X.xe s := by
  have hfree : ∀ y ∈ scope.names, y.2 = .free → ∃ c, X.env.cells.lookup y.1 = some c := fun y hy e => by
    rcases ok.free y hy e with k | k
    · exact I.ok.has _ (.inl k)
    · exact I.ok.has _ (.inr k)
  refine wpAny_comprehension_free (use := use) rfl hs (closure_ok hfree) ok.kind (fun y hy e => by rw [ok.uniq y hy, e])
    (thn (hi pins s σ H _ I h) fun xv s1 hx => thn hx fun itv s2 h2 => ?_)
  obtain ⟨it, fp, tn, J, H2, e, I2, T, st2, f2, q⟩ := h2
  subst e
  refine wpAny_newObj_type (newEnv_comp ?_) (by show 0 ≤ sizeLine; decide)
  generalize hD : s2.heap.objs.size = D
  have hDn : H2 D = none := I2.hok.fresh (Nat.le_of_eq hD)
  obtain ⟨W, ⟨m0, w0⟩, turn⟩ := q D hDn
  -- the new list
  generalize hs3 : ({ s2 with heap := s2.heap.push { cls := .type "list", data := .seq ([] : List Value).toArray } } : Shared) = s3
  have I3 : Inv X pins σ (upd H2 D (.lst [])) s3 := by
    rw [← hs3]
    refine I2.laid (t' := s2.toks) (fun b o e => Heap.get?_push_of_some _ e) (Nat.le_of_eq hD) ⟨Nat.zero_le _, [], 0, .nil, ?_⟩
    rw [← hD]
    exact Heap.get?_push_size _ rfl
  have h3 : s3.heap = s2.heap.push { cls := .type "list", data := .seq ([] : List Value).toArray } := by rw [← hs3]
  have sz : ∀ b ∈ fp, b < s2.heap.objs.size := fun b hb => by
    obtain ⟨o, e, _⟩ := T.obj _ _ st2 b hb
    exact Heap.lt_size e
  have f3 : ∀ b ∈ fp, FpOk X pins (upd H2 D (.lst [])) b ∧ b < s3.heap.objs.size := fun b hb => by
    have hlt := sz b hb
    refine ⟨⟨?_, (f2 b hb).2⟩, by rw [h3, Heap.size_push]; exact Nat.lt_succ_of_lt hlt⟩
    rw [upd_ne (by rw [← hD]; exact Nat.ne_of_lt hlt)]
    exact (f2 b hb).1
  have st3 : tn 0 s3.heap := T.keep _ _ _ st2 fun b _ o e => by rw [h3]; exact Heap.get?_push_of_some _ e
  have I4 := block_start I3 ok hN f3
  have pg := hg s3 (upd H2 D (.lst [])) s3.heap.objs.size (cellsFrom (s3.heap.objs.size + 1) scope.names (cloFrom X.env.cells scope.names [])) fp
  have pt := ht s3 (upd H2 D (.lst [])) s3.heap.objs.size (cellsFrom (s3.heap.objs.size + 1) scope.names (cloFrom X.env.cells scope.names [])) fp
  have pe := he s3 (upd H2 D (.lst [])) s3.heap.objs.size (cellsFrom (s3.heap.objs.size + 1) scope.names (cloFrom X.env.cells scope.names [])) fp
  show codeAny _ _ (.compStart (.ListComp elt [⟨tg, iter, ifs, 0⟩] scope pos) 0 (.ref it) (.ref D) (compEnvC scope (cellsFrom (s3.heap.objs.size + 1) scope.names (cloFrom X.env.cells scope.names [])) s3.heap.objs.size X.env)) (compPost (model X.prog X.w) X.A X.xe use Qf (.ref D) s3.heap.objs.size) { s3 with heap := pushCells (s3.heap.push { cls := .type "dict", data := .dict #[] }) scope.names }
  have nfp : ∀ b ∈ fp, (upd H2 D (.lst [])) b = none := fun b hb => (f3 b hb).1.1
  generalize hce : compEnvC scope (cellsFrom (s3.heap.objs.size + 1) scope.names (cloFrom X.env.cells scope.names [])) s3.heap.objs.size X.env = ce at I4 pg pt pe ⊢
  have cL : ce.locals = s3.heap.objs.size := by subst hce; rfl
  generalize hH3 : upd H2 D (.lst []) = H3 at I3 I4 pg pt pe w0 nfp f3
  generalize hs4 : ({ s3 with heap := pushCells (s3.heap.push { cls := .type "dict", data := .dict #[] }) scope.names } : Shared) = s4 at I4 ⊢
  have st4 : tn 0 s4.heap := T.keep _ _ _ st3 fun b _ o e => by rw [← hs4]; exact pushCells_keeps _ _ _ _ (Heap.get?_push_of_some _ e)
  have stat : ∀ {σ' : St} {H' : Hp} {s' : Shared}, Inv (X.blk s3 H3 scope ce fp) [] σ' H' s' → (∀ b ∈ fp, H' b = none) → ∀ b ∈ fp, FpOk (X.blk s3 H3 scope ce fp) [] H' b := fun {σ' H' s'} I' hn b hb =>
    ⟨hn b hb, (I'.ok.exf b hb).1, I'.ok.exfs b hb, .inl hb, fun x c e => (I'.ok.exf b hb).2 x c e, fun p hp => absurd (show p ∈ ([] : List (Addr × Obj)) ++ [] from hp) (by simp)⟩
  have loop : codeAny (model X.prog X.w) X.A (.compLoop (.ListComp elt [⟨tg, iter, ifs, 0⟩] scope pos) 0 (.ref it) (.ref D) ce) (compPost (model X.prog X.w) X.A X.xe use Qf (.ref D) s3.heap.objs.size) s4 := by
    refine compLoop_any (fun n s' => ∃ i H', Inv (X.blk s3 H3 scope ce fp) [] (wipe σ (own.map (·.2))) H' s' ∧ tn i s'.heap ∧ (∀ b ∈ fp, H' b = none) ∧ W i n H') ?_ m0 ⟨0, H3, I4, st4, nfp, w0⟩
    rintro n s5 ⟨i, H5, I5, st5, n5, w5⟩
    rcases turn i n H5 w5 with ⟨stop, qq⟩ | ⟨go, Nx, hNx, step⟩
    · have td := T.done (X.blk s3 H3 scope ce fp) rfl rfl rfl hc i [] s5 _ H5 (fun _ _ => False) I5 (stat I5 n5) st5 stop
      refine thnF td fun r s6 ⟨hr, I6⟩ => ?_
      subst hr
      -- back in the def's context
      have I7 : Inv X pins σ H5 s6 := I3.call' (ch := fp) I6.os I6.base I6.hok I6.bare fun b hb => ⟨(f3 b hb).1.2.2.2.1, (f3 b hb).1.2.1, (f3 b hb).1.2.2.2.2.1, (f3 b hb).1.2.2.2.2.2⟩
      have nC : H5 s3.heap.objs.size = none := by
        have z : H5 ce.locals = none := I6.free
        rw [cL] at z
        exact z
      obtain ⟨m, hn, _⟩ := I6.loc
      have hn : s6.heap.Ns ce.locals m := hn
      rw [cL] at hn
      exact hRR D s3.heap.objs.size s6 m H5 I7 qq hn (I3.fpOk (Nat.le_refl _) nC)
    · have ti := T.item (X.blk s3 H3 scope ce fp) rfl rfl rfl hc i [] s5 _ H5 (fun _ _ => False) I5 (stat I5 n5) st5 go
      refine thnF ti fun r s6 ⟨u, hr, h6⟩ => ?_
      subst hr
      refine thnF h6 fun _ s7 ⟨x, H7, I7, r7, y7, st7, n7⟩ => ?_
      have I7' := I7.pinned (stat I7 n7) (T.obj _ _ st7)
      refine thnF (pg _ s7 _ H7 x u _ I7' r7 (step x H7 y7)) fun _ s8 ⟨σ8, H8, I8, hw8, q8⟩ => ?_
      refine thnF (pt _ s8 σ8 H8 _ I8 q8) fun b s9 ⟨H9, I9, q9⟩ => ?_
      -- the turn's end
      have fin : ∀ {s' : Shared} {H' : Hp}, Inv (X.blk s3 H3 scope ce fp) ([] ++ pinsAt fp s7.heap) σ8 H' s' → Nx H' → ∃ m, m < n ∧ ∃ i H', Inv (X.blk s3 H3 scope ce fp) [] (wipe σ (own.map (·.2))) H' s' ∧ tn i s'.heap ∧ (∀ b ∈ fp, H' b = none) ∧ W i m H' := fun {s' H'} I' nx => by
        obtain ⟨m', hm, w'⟩ := hNx H' nx
        have pin' : ∀ b ∈ fp, ∀ o, s7.heap.get? b = some o → s'.heap.get? b = some o ∧ H' b = none := fun b hb o e =>
          let z := I'.pin (b, o) (List.mem_append_right _ (List.mem_append_right _ (mem_pinsAt hb e)))
          ⟨z.1, z.2.1⟩
        have hl : (wipe σ (own.map (·.2))).length = σ8.length := by rw [← hw8, wipe_length]
        refine ⟨m', hm, i + 1, H', (I'.unpinned (pins := [])).weak hl (fun j v e => ?_), T.keep _ _ _ st7 fun b hb o e => (pin' b hb o e).1, fun b hb => ?_, w'⟩
        · rw [← hw8] at e
          exact (wipe_some e).1
        · obtain ⟨o, e, _⟩ := T.obj _ _ st7 b hb
          exact (pin' b hb o e).2
      cases b with
      | false =>
        simp only [Bool.false_eq_true, if_false] at q9 ⊢
        exact fin I9 q9
      | true =>
        simp only [if_true] at q9 ⊢
        refine thnF (pe _ s9 σ8 H9 _ I9 q9) fun z s10 ⟨yv, H10, I10, r10, acc, hD10, hz10, nx⟩ => ?_
        exact app_ok (X := X.blk s3 H3 scope ce fp) I10 hD10 hz10 r10 fun s11 I11 => fin I11 nx
  exact codeAny_compStart_list loop (T.self X.A 0 _ _ _ st4 loop)
/-- as a value -/
theorem pe_lc {elt tg iter : Expr} {ifs : List Expr} {scope : Scope} {own : List (Str × Nat)} {pos : Pos} {wi : TI} {g : TG} {tt : TT} {te : TE} (hc : X.calm = true) (hN : X.N.Nodup) (hi : PI X tg iter wi) (ok : BlkOk X.N X.env.scope scope own)
    (hg : ∀ (s : Shared) (H : Hp) (C : Addr) (cl : List (Str × Addr)) (fp : List Addr), PG (X.blk s H scope (compEnvC scope cl C X.env) fp) tg g) (ht : ∀ (s : Shared) (H : Hp) (C : Addr) (cl : List (Str × Addr)) (fp : List Addr), PTs (X.blk s H scope (compEnvC scope cl C X.env) fp) ifs tt)
    (he : ∀ (s : Shared) (H : Hp) (C : Addr) (cl : List (Str × Addr)) (fp : List Addr), PE (X.blk s H scope (compEnvC scope cl C X.env) fp) elt te) (hs : ∀ x, foldedSetIterable iter X.env x = pure x := by intro _; rfl) :
    PE X (.ListComp elt [⟨tg, iter, ifs, 0⟩] scope pos) (tLc wi g tt te (own.map (·.2))) := by
  intro pins s σ H Q I h
  rw [eval_ListComp]
  refine lc_core hc hN I hi ok hg ht he hs h fun D C s' m H' I' q hn f => ⟨m, hn, fun h'' sb => ?_⟩
  obtain ⟨f0, f1, f2, f3, f4, f5⟩ := f
  exact ⟨.ref D, H', I'.turned (t' := s'.toks) (fun b o hb e => (sb.2 b hb).trans e) f0 f1 f3 f4 f5, rfl, q⟩
/-- name = [..] on one line, the name a local -/
theorem ps_setLc {i : Nat} {y : Str} {py : Pos} {elt tg iter : Expr} {ifs : List Expr} {scope : Scope} {own : List (Str × Nat)} {pos spos : Pos} {wi : TI} {g : TG} {tt : TT} {te : TE} (hc : X.calm = true) (hN : X.N.Nodup) (hy : X.N[i]? = some y) (hyl : X.env.scope.names.lookup y = some .local)
    (hsw : swapsWith (.ListComp elt [⟨tg, iter, ifs, 0⟩] scope pos) (some (.Name y py)) spos.line X.env = pure true) (hi : PI X tg iter wi) (ok : BlkOk X.N X.env.scope scope own)
    (hg : ∀ (s : Shared) (H : Hp) (C : Addr) (cl : List (Str × Addr)) (fp : List Addr), PG (X.blk s H scope (compEnvC scope cl C X.env) fp) tg g) (ht : ∀ (s : Shared) (H : Hp) (C : Addr) (cl : List (Str × Addr)) (fp : List Addr), PTs (X.blk s H scope (compEnvC scope cl C X.env) fp) ifs tt)
    (he : ∀ (s : Shared) (H : Hp) (C : Addr) (cl : List (Str × Addr)) (fp : List Addr), PE (X.blk s H scope (compEnvC scope cl C X.env) fp) elt te) (hs : ∀ x, foldedSetIterable iter X.env x = pure x := by intro _; rfl) :
    PS X (.Assign [.Name y py] (.ListComp elt [⟨tg, iter, ifs, 0⟩] scope pos) spos) (tAsg (tLc wi g tt te (own.map (·.2))) (gName i)) := by
  intro pins s σ H D I h
  rw [exec_Assign_Name_used _ _ _ _ hsw]
  refine wpAny_bind (wpAny_standAt (wpAny_bind ?_))
  show wpAny _ X.A (do let _ ← comprehension (.ListComp elt [⟨tg, iter, ifs, 0⟩] scope pos) scope X.env (firstIterPos [⟨tg, iter, ifs, 0⟩] pos) (newList []) false (eval iter X.env) (some (assign (.Name y py) X.env))) _ _ s
  have h : tLc wi g tt te (own.map (·.2)) σ H (fun x H1 => gName i x σ H1 D.nx) := h
  refine wpAny_bind (thn (lc_core (Qf := fun _ s' => SP X pins D .next s') hc hN I hi ok hg ht he hs h fun L C s' m H' I' q hn f => ?_) fun _ s' hq => wpAny_pure (wpAny_pure hq))
  show wpAny _ _ (assign (.Name y py) X.env (.ref L)) _ _ _
  refine wpAny_assign_Name (store_ok2 (v := V.ref L) I' hN hy (.inl hyl) rfl (fun s2 I2 ⟨a, sb, ha⟩ => ?_) (.inr hyl))
  obtain ⟨f0, f1, f2, f3, f4, f5⟩ := f
  have haC : C ≠ a := by
    rcases ha with z | z
    · rw [z]; exact f1
    · exact fun e => f4 y a z e.symm
  refine ⟨m, hn.sameBut sb haC, fun h3 sb3 => ?_⟩
  exact ⟨_, H', I2.turned (t' := s2.toks) (fun b o hb e => (sb3.2 b hb).trans e) f0 f1 f3 f4 f5, q⟩
theorem sw_true {elt : Expr} {gs : List Comprehension} {scope : Scope} {pos py : Pos} {y : Str} {l : Nat} {env : Env} (hk : env.scope.kind = .function) (hy : env.scope.names.lookup y = some .local) (hl : (py.line == pos.line) = true)
    (ha : (scope.names.any fun (n, k) => n == y && (k == .local || k == .cell)) = false) : swapsWith (.ListComp elt gs scope pos) (some (.Name y py)) l env = pure true := by
  have ky : env.kindOf y = some .local := hy
  have hb : env.blockKind = .function := by unfold Env.blockKind; rw [hk]; rfl
  unfold swapsWith
  simp only [hb, ky, ha, Expr.pos, hl]
  rfl
end

/-- over a list that the block leaves as it is -/
theorem lc_list {K : PySem.W.Frag} {a : Addr} {xs : List V} {g : TG} {tt : TT} {te : TE} {vs : List Nat} {σ : St} {H1 : Hp} {D : Addr} {Qd : Hp → Prop} (Pv : Nat → Hp → Prop) (h0 : Pv 0 (upd H1 D (.lst []))) (hl : ∀ i H, i ≤ xs.length → Pv i H → SqL K H a xs)
    (hs : ∀ i x H, xs[i]? = some x → Pv i H → g x (wipe σ vs) H fun σ2 H2 => wipe σ2 vs = wipe σ vs ∧ tt σ2 H2 fun b H3 =>
      if b = true then te σ2 H3 fun y H4 => ∃ acc, H4 D = some (.lst acc) ∧ acc.length < sizeLine ∧ Pv (i + 1) (upd H4 D (.lst (acc ++ [y]))) else Pv (i + 1) H3) (hd : ∀ H, Pv xs.length H → Qd H) :
    ∃ W : Nat → Nat → Hp → Prop, (∃ m, W 0 m (upd H1 D (.lst []))) ∧ ∀ i m H, W i m H →
      ((Itl K a).stop i H ∧ Qd H) ∨ ((Itl K a).go i H ∧ ∃ Nx : Hp → Prop, (∀ H', Nx H' → ∃ m', m' < m ∧ W (i + 1) m' H') ∧ ∀ x H', (Itl K a).yld i H x H' → g x (wipe σ vs) H' fun σ2 H2 => wipe σ2 vs = wipe σ vs ∧ tt σ2 H2 fun b H3 =>
        if b = true then te σ2 H3 fun y H4 => ∃ acc, H4 D = some (.lst acc) ∧ acc.length < sizeLine ∧ Nx (upd H4 D (.lst (acc ++ [y]))) else Nx H3) := by
  refine ⟨fun i m H => m = xs.length - i ∧ i ≤ xs.length ∧ Pv i H, ⟨xs.length, by simp, Nat.zero_le _, h0⟩, ?_⟩
  rintro i m H ⟨rfl, hi, p⟩
  have q := hl i H hi p
  by_cases hlt : i < xs.length
  · refine .inr ⟨⟨xs, xs[i], q, by simp [hlt]⟩, Pv (i + 1), fun H' p' => ⟨xs.length - (i + 1), by omega, rfl, hlt, p'⟩, fun x H' y => ?_⟩
    obtain ⟨e, y⟩ := y
    subst e
    exact hs i x _ (y xs q) p
  · have e : i = xs.length := by omega
    subst e
    exact .inl ⟨⟨xs, q, Nat.le_refl _⟩, hd H p⟩
def blkC (N : List Str) (sc scope : Scope) (own : List (Str × Nat)) : Bool :=
  (match scope.kind with | .function => true | _ => false) && (scope.names.all fun y => decide (scope.names.lookup y.1 = some y.2)) && (own.all fun p => decide (N[p.2]? = some p.1)) &&
    (scope.names.all fun y => match y.2 with
      | .free => (match sc.names.lookup y.1 with | some .cell => true | some .free => true | _ => false)
      | .local => decide (y.1 ∈ own.map (·.1)) || decide (y.1 ∉ N)
      | .cell => decide (y.1 ∈ own.map (·.1)) || decide (y.1 ∉ N)
      | _ => true)
theorem blkOk_by {N : List Str} {sc scope : Scope} {own : List (Str × Nat)} (h : blkC N sc scope own = true) : BlkOk N sc scope own := by
  unfold blkC at h
  simp only [Bool.and_eq_true, List.all_eq_true, decide_eq_true_eq] at h
  obtain ⟨⟨⟨h1, h2⟩, h3⟩, h4⟩ := h
  refine ⟨?_, h2, h3, fun y hy e => ?_, fun y hy e => ?_⟩
  · split at h1
    · assumption
    · cases h1
  · have q := h4 y hy
    simp only [e] at q
    split at q <;> first | exact .inl (by assumption) | exact .inr (by assumption) | cases q
  · have q := h4 y hy
    rcases e with e | e <;> (simp only [e, Bool.or_eq_true, decide_eq_true_eq] at q; exact q)
end L2

namespace L2
open PySem PySem.Spec PyProof.Rows

section
variable {prog : Program} {w : World} {A : Around} {R : Result → Shared → Prop} {s : Shared} {elt t0 i0 t1 i1 : Expr} {ifs0 ifs1 : List Expr} {scope : Scope} {pos : Pos} {it acc : Value} {env : Env}
end

section
variable {X : Cx}
end
end L2

namespace L2
open PySem PySem.Spec PyProof.Rows

/-! ### lists of pairs as tables -/
section
variable {κ : Type} [DecidableEq κ]
def valV (kvs : List (κ × V)) (k : κ) : Option V := (kvs.find? fun kv => decide (kv.1 = k)).map (·.2)
/-- in its place, or at the end -/
def putK (kvs : List (κ × V)) (k : κ) (v : V) : List (κ × V) :=
  if (kvs.any fun kv => decide (kv.1 = k)) = true then kvs.map (fun kv => if kv.1 = k then (kv.1, v) else kv) else kvs ++ [(k, v)]
def dropK (kvs : List (κ × V)) (k : κ) : List (κ × V) := kvs.filter fun kv => decide (kv.1 ≠ k)

theorem valV_pos {p : κ × V} {r : List (κ × V)} {k : κ} (e : p.1 = k) : valV (p :: r) k = some p.2 := by simp [valV, List.find?_cons, e]
theorem valV_neg {p : κ × V} {r : List (κ × V)} {k : κ} (e : ¬ p.1 = k) : valV (p :: r) k = valV r k := by simp [valV, List.find?_cons, e]
theorem valV_any (k : κ) : ∀ kvs : List (κ × V), (kvs.any fun kv => decide (kv.1 = k)) = (valV kvs k).isSome
  | [] => rfl
  | p :: r => by
    rw [List.any_cons]
    by_cases e : p.1 = k
    · simp only [valV_pos e, decide_eq_true e, Bool.true_or, Option.isSome_some]
    · rw [valV_neg e, decide_eq_false e, Bool.false_or]; exact valV_any k r
theorem valV_map (k j : κ) (y : V) : ∀ kvs : List (κ × V), valV (kvs.map fun kv => if kv.1 = k then (kv.1, y) else kv) j = (valV kvs j).map fun x => if j = k then y else x
  | [] => rfl
  | p :: r => by
    have ih := valV_map k j y r
    rw [List.map_cons]
    by_cases h : p.1 = k
    · rw [if_pos h]
      by_cases e : p.1 = j
      · rw [valV_pos (p := (p.1, y)) e, valV_pos e, Option.map_some, if_pos (e.symm.trans h)]
      · rw [valV_neg (p := (p.1, y)) e, valV_neg e, ih]
    · rw [if_neg h]
      by_cases e : p.1 = j
      · rw [valV_pos (p := p) e, valV_pos e, Option.map_some, if_neg (fun z => h (e.trans z))]
      · rw [valV_neg (p := p) e, valV_neg e, ih]
theorem valV_snoc (k j : κ) (y : V) : ∀ kvs : List (κ × V), valV kvs k = none → valV (kvs ++ [(k, y)]) j = if j = k then some y else valV kvs j
  | [], _ => by
    by_cases e : k = j
    · rw [if_pos e.symm]; exact valV_pos (p := (k, y)) e
    · rw [if_neg (fun z => e z.symm)]; exact valV_neg (p := (k, y)) e
  | p :: r, hn => by
    rw [List.cons_append]
    have hk : ¬ p.1 = k := fun z => by rw [valV_pos z] at hn; cases hn
    rw [valV_neg hk] at hn
    have ih := valV_snoc k j y r hn
    by_cases e : p.1 = j
    · rw [valV_pos e, valV_pos e, if_neg (fun z => hk (e.trans z))]
    · rw [valV_neg e, valV_neg e, ih]
theorem valV_put (kvs : List (κ × V)) (k j : κ) (y : V) : valV (putK kvs k y) j = if j = k then some y else valV kvs j := by
  unfold putK
  by_cases a : (kvs.any fun kv => decide (kv.1 = k)) = true
  · rw [if_pos a, valV_map]
    rw [valV_any] at a
    by_cases e : j = k
    · obtain ⟨x, hx⟩ := Option.isSome_iff_exists.mp a
      rw [if_pos e, e, hx, Option.map_some, if_pos rfl]
    · rw [if_neg e]
      cases valV kvs j with
      | none => rfl
      | some x => rw [Option.map_some, if_neg e]
  · rw [if_neg a]
    refine valV_snoc k j y kvs ?_
    rw [valV_any] at a
    cases q : valV kvs k with
    | none => rfl
    | some x => rw [q] at a; exact (a rfl).elim
theorem length_putK (kvs : List (κ × V)) (k : κ) (v : V) : (putK kvs k v).length ≤ kvs.length + 1 := by
  unfold putK
  split
  · rw [List.length_map]; omega
  · rw [List.length_append, List.length_cons, List.length_nil]; omega
theorem RelO.isSome_eq {o : Option V} {u : Option Value} (r : RelO o u) : o.isSome = u.isSome := by
  cases o with
  | none => cases u with
    | none => rfl
    | some _ => exact (show False from r).elim
  | some _ => cases u with
    | none => exact (show False from r).elim
    | some _ => rfl
theorem RelO.getD {o : Option V} {u : Option Value} {d : V} {d' : Value} (r : RelO o u) (rd : RelV d d') : RelV (o.getD d) (u.getD d') := by
  cases o with
  | none => cases u with
    | none => exact rd
    | some _ => exact (show False from r).elim
  | some _ => cases u with
    | none => exact (show False from r).elim
    | some _ => exact r

/-- raw tables of the same keys -/
theorem KV.val {kvs : List (κ × V)} {vs : List (κ × Value)} (r : KV kvs vs) (k : κ) : RelO (valV kvs k) (valueAt vs k) := by
  unfold KV at r
  induction r with
  | nil => exact True.intro
  | @cons p q ps qs h t ih =>
    obtain ⟨h1, h2⟩ := h
    by_cases e : p.1 = k
    · have e' : q.1 = k := h1.symm.trans e
      have b : valueAt (q :: qs) k = some q.2 := by simp [valueAt, List.find?_cons, e']
      rw [valV_pos e, b]; exact h2
    · have e' : ¬ q.1 = k := fun z => e (h1.trans z)
      have b : valueAt (q :: qs) k = valueAt qs k := by simp [valueAt, List.find?_cons, e']
      rw [valV_neg e, b]; exact ih
theorem KV.any {kvs : List (κ × V)} {vs : List (κ × Value)} (r : KV kvs vs) (k : κ) : (kvs.any fun kv => decide (kv.1 = k)) = vs.any fun kv => decide (kv.1 = k) := by
  unfold KV at r
  induction r with
  | nil => rfl
  | cons h t ih => rw [List.any_cons, List.any_cons, ih, h.1]
theorem KV.repl {kvs : List (κ × V)} {vs : List (κ × Value)} (r : KV kvs vs) (k : κ) {y : V} {u : Value} (ry : RelV y u) :
    KV (kvs.map fun kv => if kv.1 = k then (kv.1, y) else kv) (vs.map fun kv => if kv.1 = k then (kv.1, u) else kv) := by
  unfold KV at r ⊢
  induction r with
  | nil => exact .nil
  | @cons p q ps qs h t ih =>
    rw [List.map_cons, List.map_cons]
    refine .cons ?_ ih
    obtain ⟨h1, h2⟩ := h
    by_cases e : p.1 = k
    · rw [if_pos e, if_pos (h1.symm.trans e)]; exact ⟨h1, ry⟩
    · rw [if_neg e, if_neg (fun z => e (h1.trans z))]; exact ⟨h1, h2⟩
theorem KV.put {kvs : List (κ × V)} {vs : List (κ × Value)} (r : KV kvs vs) (k : κ) {y : V} {u : Value} (ry : RelV y u) : KV (putK kvs k y) (stored vs k u) := by
  unfold putK stored
  rw [r.any k]
  by_cases e : (vs.any fun kv => decide (kv.1 = k)) = true
  · rw [if_pos e, if_pos e]; exact r.repl k ry
  · rw [if_neg e, if_neg e]; exact Paired.snoc r ⟨rfl, ry⟩
theorem KV.drop {kvs : List (κ × V)} {vs : List (κ × Value)} (r : KV kvs vs) (k : κ) : KV (dropK kvs k) (without vs k) := by
  unfold KV at r ⊢
  unfold dropK without
  induction r with
  | nil => exact .nil
  | @cons p q ps qs h t ih =>
    obtain ⟨h1, h2⟩ := h
    rw [List.filter_cons, List.filter_cons]
    by_cases e : p.1 = k
    · have a : ¬ decide (p.1 ≠ k) = true := by simp [e]
      have b : ¬ decide (q.1 ≠ k) = true := by simp [h1.symm.trans e]
      rw [if_neg a, if_neg b]; exact ih
    · have e' : ¬ q.1 = k := fun z => e (h1.trans z)
      have a : decide (p.1 ≠ k) = true := by simp [e]
      have b : decide (q.1 ≠ k) = true := by simp [e']
      rw [if_pos a, if_pos b]; exact .cons ⟨h1, h2⟩ ih
theorem KV.length {kvs : List (κ × V)} {vs : List (κ × Value)} (r : KV kvs vs) : kvs.length = vs.length := Paired.length r
end


/-! ### a tracked dict, its keys ints and texts or tuples of these -/
theorem kV_is {P : Program} {w : World} {k : Key} {u : Value} (r : RelV (kV k) u) : (mixKind P w).is k u = true := by
  cases k with
  | inl i => obtain ⟨t, e⟩ := (show ∃ t, u = Value.int i t from r); subst e; exact mixKind_int P w i t
  | inr x => obtain ⟨t, e⟩ := (show ∃ t, u = Value.str x t from r); subst e; exact mixKind_str P w x t
theorem items_are {P : Program} {w : World} : ∀ {ks : List Key} {us : List Value}, Vals (ks.map kV) us → ItemsAre (mixKind P w) ks us
  | [], _, r => by rw [List.map_nil] at r; cases r; exact .nil
  | k :: ks, _, r => by
    rw [List.map_cons] at r
    cases r with
    | cons h t => exact .cons (kV_is h) (items_are t)

/-- raw entries of a dict with tuple keys -/
abbrev KT (H : Hp) : List (List Key × V) → List (List Key × Addr × Value) → Prop := Paired fun p q => p.1 = q.1 ∧ H q.2.1 = some (.tup (p.1.map kV)) ∧ RelV p.2 q.2.2
theorem KT.val {H : Hp} {kvs : List (List Key × V)} {xs : List (List Key × Addr × Value)} (r : KT H kvs xs) (k : List Key) : RelO (valV kvs k) ((atKey xs k).map (·.2)) := by
  induction r with
  | nil => exact True.intro
  | @cons p q ps qs h t ih =>
    obtain ⟨h1, _, h2⟩ := h
    by_cases e : p.1 = k
    · have e' : q.1 = k := h1.symm.trans e
      have b : atKey (q :: qs) k = some q.2 := by simp [atKey, List.find?_cons, e']
      rw [valV_pos e, b]; exact h2
    · have e' : ¬ q.1 = k := fun z => e (h1.trans z)
      have b : atKey (q :: qs) k = atKey qs k := by simp [atKey, List.find?_cons, e']
      rw [valV_neg e, b]; exact ih
theorem KT.repl {H : Hp} {kvs : List (List Key × V)} {xs : List (List Key × Addr × Value)} (r : KT H kvs xs) (k : List Key) {y : V} {u : Value} (ry : RelV y u) :
    KT H (kvs.map fun kv => if kv.1 = k then (kv.1, y) else kv) (xs.map (putAt k u)) := by
  induction r with
  | nil => exact .nil
  | @cons p q ps qs h t ih =>
    rw [List.map_cons, List.map_cons]
    refine .cons ?_ ih
    obtain ⟨h1, h2, h3⟩ := h
    unfold putAt
    by_cases e : p.1 = k
    · rw [if_pos e, if_pos (h1.symm.trans e)]; exact ⟨h1, h2, ry⟩
    · rw [if_neg e, if_neg (fun z => e (h1.trans z))]; exact ⟨h1, h2, h3⟩
theorem KT.put {H : Hp} {kvs : List (List Key × V)} {xs : List (List Key × Addr × Value)} (r : KT H kvs xs) (k : List Key) {b : Addr} {y : V} {u : Value} (hb : H b = some (.tup (k.map kV))) (ry : RelV y u) :
    KT H (putK kvs k y) (storedH xs k b u) := by
  have e : (kvs.any fun kv => decide (kv.1 = k)) = (atKey xs k).isSome := by
    rw [valV_any, (r.val k).isSome_eq, Option.isSome_map]
  unfold putK storedH
  rw [e]
  by_cases q : (atKey xs k).isSome = true
  · rw [if_pos q, if_pos q]; exact r.repl k ry
  · rw [if_neg q, if_neg q]; exact Paired.snoc r ⟨rfl, hb, ry⟩
theorem KT.keeps {H H' : Hp} {kvs : List (List Key × V)} {xs : List (List Key × Addr × Value)} (r : KT H kvs xs) (ht : ∀ b ys, H b = some (.tup ys) → H' b = some (.tup ys)) : KT H' kvs xs :=
  Paired.mapP r fun _ _ z => ⟨z.1, ht _ _ z.2.1, z.2.2⟩

section
variable {P : Program} {w : World} {H : Hp} {h : Heap} {a : Addr}
theorem rd_of {u : HO} (ok : HOk P w H h) (e : Rd H a u) : ObjOk P w H h a u := e.ok ok
theorem dk_rd {kvs : List (Key × V)} (ok : HOk P w H h) (e : Rd H a (.dK kvs)) : kvs.length ≤ sizeLine ∧ (a == sysModules) = false ∧ ∃ vs, KV kvs vs ∧ h.DictOf (mixKind P w) a vs :=
  show ObjOk P w H h a (.dK kvs) from rd_of ok e
theorem dk_of {kvs : List (Key × V)} (ok : HOk P w H h) (e : H a = some (.dK kvs)) : kvs.length ≤ sizeLine ∧ (a == sysModules) = false ∧ ∃ vs, KV kvs vs ∧ h.DictOf (mixKind P w) a vs := dk_rd ok (.inl e)
/-- a tracked tuple of ints and texts is a key -/
theorem key_of {ks : List Key} (ok : HOk P w H h) (e : H a = some (.tup (ks.map kV))) : (tupleKind (mixKind P w)).is h ks a := by
  obtain ⟨_, its, r, o, h1, h2, n, h3⟩ := (show ObjOk P w H h a (.tup (ks.map kV)) from ok a _ e)
  exact ⟨o, its.toArray, n, h1, h2, h3, by simpa using items_are r⟩
theorem dt_rd {kvs : List (List Key × V)} (ok : HOk P w H h) (e : Rd H a (.dT kvs)) : kvs.length ≤ sizeLine ∧ (a == sysModules) = false ∧
    ∃ xs, KT H kvs xs ∧ h.DictOfH (tupleKind (mixKind P w)) a xs := by
  obtain ⟨z, y, xs, r, o, es, ep, h1, h2, h3, h4, h5⟩ := (show ObjOk P w H h a (.dT kvs) from rd_of ok e)
  refine ⟨z, y, xs, r, o, es, ep, h1, h2, h3, h4, fun x hx => ?_, h5⟩
  have all : ∀ {l : List (List Key × V)} {m : List (List Key × Addr × Value)}, KT H l m → ∀ x ∈ m, (tupleKind (mixKind P w)).is h x.1 x.2.1 := by
    intro l m q
    induction q with
    | nil => intro x hx; exact nomatch hx
    | @cons p q ps qs hq t ih =>
      intro x hx
      rcases List.mem_cons.mp hx with e | hx
      · subst e
        exact key_of ok (by rw [← hq.1]; exact hq.2.1)
      · exact ih x hx
  exact all r x hx
theorem dt_of {kvs : List (List Key × V)} (ok : HOk P w H h) (e : H a = some (.dT kvs)) : kvs.length ≤ sizeLine ∧ (a == sysModules) = false ∧
    ∃ xs, KT H kvs xs ∧ h.DictOfH (tupleKind (mixKind P w)) a xs := dt_rd ok (.inl e)
end

/-- what the dict at a holds at the key y -/
def DGet (H : Hp) (a : Addr) (y : V) (r : Option V) : Prop :=
  (∃ kvs k, Rd H a (.dK kvs) ∧ y = kV k ∧ r = valV kvs k) ∨ ∃ kvs k b, Rd H a (.dT kvs) ∧ y = .ref b ∧ H b = some (.tup (k.map kV)) ∧ r = valV kvs k
/-- the heap behind a[y] = v -/
def DPut (H : Hp) (a : Addr) (y v : V) (H' : Hp) : Prop :=
  (∃ kvs k, H a = some (.dK kvs) ∧ y = kV k ∧ kvs.length < sizeLine ∧ H' = upd H a (.dK (putK kvs k v))) ∨
  ∃ kvs k b, H a = some (.dT kvs) ∧ y = .ref b ∧ H b = some (.tup (k.map kV)) ∧ kvs.length < sizeLine ∧ H' = upd H a (.dT (putK kvs k v))
theorem DGet.k {H : Hp} {a : Addr} {kvs : List (Key × V)} {k : Key} (e : H a = some (.dK kvs)) : DGet H a (kV k) (valV kvs k) := .inl ⟨kvs, k, .inl e, rfl, rfl⟩
theorem DGet.t {H : Hp} {a b : Addr} {kvs : List (List Key × V)} {k : List Key} (e : H a = some (.dT kvs)) (eb : H b = some (.tup (k.map kV))) : DGet H a (.ref b) (valV kvs k) := .inr ⟨kvs, k, b, .inl e, rfl, eb, rfl⟩
theorem DPut.k {H : Hp} {a : Addr} {kvs : List (Key × V)} {k : Key} {v : V} (e : H a = some (.dK kvs)) (hl : kvs.length < sizeLine) : DPut H a (kV k) v (upd H a (.dK (putK kvs k v))) := .inl ⟨kvs, k, e, rfl, hl, rfl⟩
theorem DPut.t {H : Hp} {a b : Addr} {kvs : List (List Key × V)} {k : List Key} {v : V} (e : H a = some (.dT kvs)) (eb : H b = some (.tup (k.map kV))) (hl : kvs.length < sizeLine) :
    DPut H a (.ref b) v (upd H a (.dT (putK kvs k v))) := .inr ⟨kvs, k, b, e, rfl, eb, hl, rfl⟩


section
variable {X : Cx} {pins : List (Addr × Obj)} {σ : St} {H : Hp} {s : Shared} {a : Addr} {y v : V} {u r : Value} {o : Option V} {A : Around} {E : Value → Shared → Prop}

theorem Inv.big (I : Inv X pins σ H s) : sysModules < s.heap.objs.size := by
  have h : mainGlobals < s.heap.objs.size := (I.mod.glob.keeps I.bk).lt
  exact Nat.lt_trans (by decide) h

/-- a dict's object is replaced -/
theorem d_write {h' : Heap} {t' : Nat} {ob : HO} (I : Inv X pins σ H s) (mu : Mut (H a)) (hs : Heap.SameBut a s.heap h') (he : ∃ q, h'.get? a = some q) (new : ObjOk X.prog X.w (upd H a ob) h' a ob) :
    Inv X pins σ (upd H a ob) { s with heap := h', toks := t' } :=
  I.write (x := a) (e := a) mu (.inl rfl) (fun b q hb z => (hs.2 b hb).trans z) he new
theorem dk_new {P : Program} {w : World} {H' : Hp} {h' : Heap} {kvs : List (Key × V)} {vs : List (Key × Value)} (z : kvs.length ≤ sizeLine) (hd : (a == sysModules) = false) (rel : KV kvs vs) (dd : h'.DictOf (mixKind P w) a vs) :
    ObjOk P w H' h' a (.dK kvs) := ⟨z, hd, vs, rel, dd⟩
/-- d[y] = v -/
theorem d_setItem {H' : Hp} {Q : Unit → Shared → Prop} (hu : A.units + 1 < cLine) (I : Inv X pins σ H s) (g : DPut H a y v H') (ry : RelV y u) (rv : RelV v r) (h : ∀ s', Inv X pins σ H' s' → Q () s') :
    wpAny (model X.prog X.w) A (setItem (.ref a) u r) Q E s := by
  rcases g with ⟨kvs, k, e, ey, l, eH⟩ | ⟨kvs, k, b, e, ey, eb, l, eH⟩
  · subst ey eH
    obtain ⟨z, hd, vs, rel, dd⟩ := dk_of I.hok e
    have hz : vs.length ≤ sizeLine := by rw [← rel.length]; exact z
    have hl : (putK kvs k v).length ≤ sizeLine := by have := length_putK kvs k v; omega
    refine wpAny_setItem_pairs (hsz := hz) (kV_is ry) dd fun h' dd' hs => h _ ?_
    have he : ∃ q, h'.get? a = some q := let ⟨q, _, _, hq, _⟩ := dd'; ⟨q, hq⟩
    exact d_write I (by rw [e]; exact True.intro) hs he (dk_new hl hd (rel.put k rv) dd')
  · subst ey eH
    cases (show u = Value.ref b from ry)
    obtain ⟨z, hd, xs, rel, dd⟩ := dt_of I.hok e
    have hz : xs.length ≤ sizeLine := by rw [← Paired.length rel]; exact z
    have hl : (putK kvs k v).length ≤ sizeLine := by have := length_putK kvs k v; omega
    refine wpAny_setItem_heap (hsz := hz) (tupleKind_room_in1 hu) (key_of I.hok eb) dd fun h' dd' hs => h _ ?_
    obtain ⟨q, es, ep, hq, h2, h3, h4, _, h5⟩ := dd'
    refine d_write I (by rw [e]; exact True.intro) hs ⟨q, hq⟩ ⟨hl, hd, _, (rel.put k eb rv).keeps fun c ys ec => ?_, q, es, ep, hq, h2, h3, h4, h5⟩
    rw [upd_ne (ne_of ec e (fun z => nomatch z))]
    exact ec
end

section
variable {X : Cx} {pins : List (Addr × Obj)} {σ : St} {H : Hp} {s : Shared} {a : Addr} {kvs : List (Key × V)} {k : Key} {u : Value} {A : Around} {E : Value → Shared → Prop}
end


/-- d[y] = v -/
def sDPut (td ty tv : TE) : TS := fun D σ H => tv σ H fun v H1 => td σ H1 fun x H2 => ty σ H2 fun y H3 => ∃ a H4, x = .ref a ∧ DPut H3 a y v H4 ∧ D.nx σ H4
section
variable {X : Cx} {o i e value : Expr} {pos pos' tpos : Pos} {td ty tv : TE}
theorem ps_dput (hu : X.A.units + 1 < cLine) (ho : PE X o td) (hi : PE X i ty) (hv : PE X value tv) (hs : swapsWith value (some (.Subscript o i pos')) pos.line X.env = pure false) :
    PS X (.Assign [.Subscript o i pos'] value pos) (sDPut td ty tv) := by
  intro pins s σ H D I h
  refine wpAny_Assign_Subscript (thn (hv pins s σ H _ I h) fun r s1 ⟨v, H1, I1, rv, q1⟩ => thn (ho pins s1 σ H1 _ I1 q1) fun u s2 ⟨x, H2, I2, rx, q2⟩ => thn (hi pins s2 σ H2 _ I2 q2) fun iv s3 ⟨y, H3, I3, ry, a, H4, ex, g, q3⟩ => ?_) hs
  subst ex
  obtain rfl : u = Value.ref a := rx
  exact d_setItem hu I3 g ry rv fun s4 I4 => ⟨σ, H4, I4, q3⟩
end


/-! ### displays -/
theorem dk_empty {P : Program} {w : World} {H : Hp} (h : Heap) (hb : sysModules < h.objs.size) : ObjOk P w H (h.push { cls := .type "dict", data := .dict #[] }) h.objs.size (.dK []) :=
  ⟨Nat.zero_le _, beq_eq_false_iff_ne.mpr (Ne.symm (Nat.ne_of_lt hb)), [], .nil, Heap.DictOf.new h⟩
/-- {}, to be a dict of the kind that is wanted -/
def tDNewK : TE := fun _ H Q => ∀ p, H p = none → Q (.ref p) (upd H p (.dK []))
section
variable {X : Cx} {pos : Pos}
theorem pe_dnewK : PE X (.Dict [] [] pos) tDNewK := fun pins s σ H Q I h =>
  wpAny_Dict_empty ⟨.ref s.heap.objs.size, _, I.laid (a := s.heap.objs.size) (o := .dK []) (t' := s.toks) (fun _ _ q => Heap.get?_push_of_some _ q) (Nat.le_refl _) (dk_empty s.heap I.big), rfl, h _ (I.hok.fresh (Nat.le_refl _))⟩
end

structure M2 (X : Cx) (o : Expr) (m : Str) (apos : Pos) (e f : Expr) (cpos : Pos) : Prop where
  base : attributeBase o m X.env (eval o X.env) = eval o X.env
  few : ((backTo cpos (starEach [e, f] X.env)).all (fun x => !x.1) && (backToKw cpos (keywordEach [] X.env)).all (fun x => x.1.isSome)
    && decide (([e, f] : List Expr).length + ([] : List Keyword).length + (if ([] : List Keyword).isEmpty then 0 else 1) < 30)) = true
  line : (apos.endLine == cpos.line) = true
  trees : backTo cpos (starEach [e, f] X.env) = [(false, eval e X.env), (false, eval f X.env)]

/-- a is a dict, whatever its keys -/
def IsD (H : Hp) (a : Addr) : Prop := (∃ kvs, Rd H a (.dK kvs)) ∨ ∃ kvs, Rd H a (.dT kvs)
theorem isD_at {X : Cx} {pins : List (Addr × Obj)} {σ : St} {H : Hp} {s : Shared} {a : Addr} (I : Inv X pins σ H s) (d : IsD H a) :
    s.TypeIs (.ref a) "dict" ∧ (∀ b, Value.ref a = .ref b → ∃ ob, s.heap.get? b = some ob ∧ ob.dict = none) ∧ (a == sysModules) = false := by
  rcases d with ⟨kvs, e⟩ | ⟨kvs, e⟩
  · obtain ⟨_, hd, vs, _, dd⟩ := dk_rd I.hok e
    refine ⟨dd.typeIs, fun b q => ?_, hd⟩
    cases q
    obtain ⟨ob, _, _, h1, h2, _⟩ := dd
    exact ⟨ob, h1, h2.2.1⟩
  · obtain ⟨_, hd, xs, _, dd⟩ := dt_rd I.hok e
    refine ⟨dd.typeIs, fun b q => ?_, hd⟩
    cases q
    obtain ⟨ob, _, _, h1, h2, _⟩ := dd
    exact ⟨ob, h1, h2.2.1⟩

section
variable {X : Cx} {pins : List (Addr × Obj)} {σ : St} {H : Hp} {s : Shared} {a : Addr} {y d : V} {u r : Value} {o : Option V} {A : Around} {E : Value → Shared → Prop}
/-- d.get(y, x) -/
theorem d_get2 {Q : Value → Shared → Prop} (hu : A.units + 1 < cLine) (I : Inv X pins σ H s) (g : DGet H a y o) (ry : RelV y u) (rd : RelV d r) (h : ∀ w' s', Inv X pins σ H s' → RelV (o.getD d) w' → Q w' s') :
    wpAny (model X.prog X.w) A (call (.builtin "dict.get") [.ref a, u, r]) Q E s := by
  rcases g with ⟨kvs, k, e, ey, l⟩ | ⟨kvs, k, b, e, ey, eb, l⟩
  · subst ey
    obtain ⟨z, hd, vs, rel, dd⟩ := dk_rd I.hok e
    refine call_meetsIn PySem.F.slot_dict_get dd.typeIs PySem.F.entry_dict_get (PySem.F.args_dict_get_3 _ _ _) (meets_dict_get_default (mixKind X.prog X.w) a (kV_is ry) hd r) ⟨_, dd.mapOf, h _ _ (I.tok _) ?_⟩
    rw [l]
    exact (rel.val k).getD rd
  · subst ey
    cases (show u = Value.ref b from ry)
    obtain ⟨z, hd, xs, rel, dd⟩ := dt_rd I.hok e
    refine call_meetsIn PySem.F.slot_dict_get dd.typeIs PySem.F.entry_dict_get (PySem.F.args_dict_get_3 _ _ _) (meetsH_dict_get_default (tupleKind (mixKind X.prog X.w)) a b hd r) ⟨tupleKind_room_in1 hu, k, xs, key_of I.hok eb, dd, h _ _ (I.tok _) ?_⟩
    rw [l]
    exact (rel.val k).getD rd
end

def tDGet2 (td ty tx : TE) : TE := fun σ H Q => td σ H fun x H1 => ∃ a, x = .ref a ∧ IsD H1 a ∧ ty σ H1 fun y H2 => tx σ H2 fun z H3 => ∃ o, DGet H3 a y o ∧ Q (o.getD z) H3
section
variable {X : Cx} {o e f : Expr} {apos cpos : Pos} {td ty tx : TE}
theorem pe_dget2 (hu : X.A.units + 1 < cLine) (ho : PE X o td) (he : PE X e ty) (hf : PE X f tx) (m : M2 X o "get" apos e f cpos) : PE X (.Call (.Attribute o "get" apos) [e, f] [] cpos) (tDGet2 td ty tx) := by
  intro pins s σ H Q I h
  refine wpAny_Call_method m.base m.few m.line PySem.F.plainAttrs_dict PySem.F.slot_dict_get PySem.F.type_dict_get (thn (ho pins s σ H _ I h) fun u s1 ⟨x, H1, I1, rx, a, ex, d, q1⟩ => ?_)
  subst ex
  obtain rfl : u = Value.ref a := rx
  obtain ⟨t1, t2, _⟩ := isD_at I1 d
  refine ⟨t1, t2, ?_⟩
  rw [m.trees]
  refine Calls.callWith_builtin rfl (Calls.evalArgs_plain (Calls.spliced_cons (thn (he pins s1 σ H1 _ I1 q1) fun iv s2 ⟨y, H2, I2, ry, q2⟩ =>
    Calls.spliced_cons (thn (hf pins s2 σ H2 _ I2 q2) fun fv s3 ⟨z, H3, I3, rz, ov, g, q3⟩ => Calls.spliced_nil ?_))))
  exact d_get2 hu I3 g ry rz fun w' s4 I4 rw' => ⟨_, H3, I4, rw', q3⟩
end

/-! ### dict(d): a copy -/
section
variable {X : Cx} {pins : List (Addr × Obj)} {σ : St} {H : Hp} {s : Shared} {a : Addr} {kvs : List (Key × V)} {A : Around} {E : Value → Shared → Prop}
end


section
variable {X : Cx} {pins : List (Addr × Obj)} {σ : St} {H : Hp} {s : Shared} {a : Addr} {y : V} {u : Value} {A : Around} {E : Value → Shared → Prop}
end
end L2

namespace L2
open PySem PySem.Spec PyProof.Rows

section
variable {prog : Program} {w : World} {A : Around} {E : Value → Shared → Prop}
end

section
variable {X : Cx}
theorem refs_at : ∀ {ps : List Addr} {us : List Value}, Vals (ps.map V.ref) us → us = ps.map Value.ref
  | [], us, r => by
    rw [List.map_nil] at r
    cases r
    rfl
  | p :: ps, us, r => by
    rw [List.map_cons] at r
    cases r with
    | cons h t =>
      cases h
      rw [List.map_cons, ← refs_at t]
end
end L2

namespace L2
open PySem PySem.Spec PyProof.Rows

section
variable {X : Cx} {pins : List (Addr × Obj)} {σ : St} {H : Hp} {s : Shared} {h' : Heap}
/-- several records of ours have turned -/
theorem Inv.turnedL {t' : Nat} {ch : List Addr} (I : Inv X pins σ H s) (k : ∀ b o, b ∉ ch → s.heap.get? b = some o → h'.get? b = some o) (hf : ∀ b ∈ ch, FpOk X pins H b) : Inv X pins σ H { s with heap := h', toks := t' } := by
  have nit : ∀ b u, H b = some u → b ∉ ch := fun b u e z => by
    have q := (hf b z).1
    rw [q] at e; cases e
  refine I.step (g' := s.gens) (d' := s.drawn) (ch := ch) (fun b hb => ⟨(hf b hb).2.2.2.1, (hf b hb).2.1, (hf b hb).2.2.2.2.1, (hf b hb).2.2.2.2.2⟩) (fun b o _ _ hc e _ => k b o hc e) (fun b o _ _ hc e _ => ⟨o.slots, k b o hc e⟩)
    (fun _ _ _ _ n => n) (fun b o hc e => ⟨o, k b o hc e⟩) (fun _ _ e => e) (fun _ _ _ e => e) (fun b ps e => ⟨#[], by rw [e]; simp⟩) (fun m hm => ?_) (fun b u e => ?_) I.bare
  · obtain ⟨o, es, ep, ho, r⟩ := hm
    exact ⟨o, es, ep, k _ o (fun z => (hf _ z).2.1 rfl) ho, r⟩
  · refine (I.hok b u e).stay (fun c v hc q => k c v ?_ q) (fun _ q => q) fun _ _ q => q
    rcases hc with z | z
    · rw [z]; exact nit b u e
    · exact nit c _ z
/-- .. and one new object is laid -/
theorem Inv.turnedNew {t' : Nat} {ch : List Addr} {T : Addr} {ob : HO} (I : Inv X pins σ H s) (k : ∀ b o, b ∉ ch → s.heap.get? b = some o → h'.get? b = some o) (hf : ∀ b ∈ ch, FpOk X pins H b) (hT : s.heap.objs.size ≤ T)
    (new : ObjOk X.prog X.w (upd H T ob) h' T ob) : Inv X pins σ (upd H T ob) { s with heap := h', toks := t' } := by
  have hn : H T = none := I.hok.fresh hT
  have nit : ∀ b u, H b = some u → b ∉ ch := fun b u e z => by
    have q := (hf b z).1
    rw [q] at e; cases e
  refine I.step (g' := s.gens) (d' := s.drawn) (ch := ch) (fun b hb => ⟨(hf b hb).2.2.2.1, (hf b hb).2.1, (hf b hb).2.2.2.2.1, (hf b hb).2.2.2.2.2⟩) (fun b o _ _ hc e _ => k b o hc e) (fun b o _ _ hc e _ => ⟨o.slots, k b o hc e⟩)
    (fun b o _ e n => ?_) (fun b o hc e => ⟨o, k b o hc e⟩) (fun b xs e => ?_) (fun b o u e => ?_) (fun b ps e => ⟨#[], ?_⟩) (fun m hm => ?_) (fun b u e => ?_) I.bare
  · rw [upd_ne (Nat.ne_of_lt (Nat.lt_of_lt_of_le (Heap.lt_size e) hT))]; exact n
  · rw [upd_ne (ne_of_none e hn)]; exact e
  · rw [upd_ne (ne_of_none e hn)]; exact e
  · rw [upd_ne (ne_of_none e hn), e]; simp
  · obtain ⟨o, es, ep, ho, r⟩ := hm
    exact ⟨o, es, ep, k _ o (fun z => (hf _ z).2.1 rfl) ho, r⟩
  · by_cases hb : b = T
    · subst hb
      rw [upd_same] at e
      cases e
      exact new
    · rw [upd_ne hb] at e
      refine (I.hok b u e).stay (fun c v hc q => k c v ?_ q) (fun c q => by rw [upd_ne (ne_of_none q hn)]; exact q) fun c xs q => by rw [upd_ne (ne_of_none q hn)]; exact q
      rcases hc with z | z
      · rw [z]; exact nit b u e
      · exact nit c _ z

end
section
variable {X : Cx}
/-! ### one iterator just laid -/
theorem pi_one {tg : Expr} {pins : List (Addr × Obj)} {σ : St} {H : Hp} {s : Shared} {R : It → Hp → Prop} {J : It} {tn : Nat → Heap → Prop} {tk : Nat} (I : Inv X pins σ H s) (o : Obj)
    (T : Turn X.prog X.w X.K tg J [s.heap.objs.size] s.heap.objs.size tn) (st : tn 0 (s.heap.push o)) (q : R J H) : PIE X pins σ tg R (.ref s.heap.objs.size) { s with heap := s.heap.push o, toks := tk } := by
  refine ⟨s.heap.objs.size, [s.heap.objs.size], tn, J, H, rfl, I.kept fun b ob e => Heap.get?_push_of_some _ e, T, st, fun b hb => ?_, q⟩
  have e : b = s.heap.objs.size := by simpa using hb
  subst e
  exact I.fpOk (Nat.le_refl _) (I.hok.fresh (Nat.le_refl _))
end

/-! ### range with a step -/
/-- lo, lo + c, .. (n of them) -/
def Itc (lo c : Int) (n : Nat) : It := ⟨fun i _ => i < n, fun i H x H' => H' = H ∧ x = .int (lo + (i : Nat) * c), fun i _ => n ≤ i⟩
theorem turn_rangeC {P : Program} {w : World} {K : PySem.W.Frag} {tg : Expr} (it : Addr) (lo c : Int) (n : Nat) : Turn P w K tg (Itc lo c n) [it] it (fun i h => IsRangeIter h it (lo + (i : Nat) * c) ((n : Int) - (i : Nat)) c) where
  mem := by simp
  obj := fun i h st b hb => by
    have e : b = it := by simpa using hb
    subst e
    exact ⟨_, st, fun v z => nomatch z⟩
  keep := fun i h h' st k => k it (by simp) _ st
  item := by
    intro X hP hw hK hc i pins s σ H E I hf st hg
    subst hP hw hK
    obtain ⟨f0, f1, f2, f3, f4, f5⟩ := hf it (by simp)
    have W := Walks.range (prog := X.prog) (w := X.w) (I.ok.hd hc) it lo c n
    refine W.item i s _ _ hg st fun v h' tk hv st' kk => ?_
    obtain ⟨t, rfl⟩ := hv
    have I1 : Inv X pins σ H { s with heap := h', toks := tk } := I.turned (fun b o hb e => kk b o (by simpa using hb) e) f0 f1 f3 f4 f5
    exact ⟨_, rfl, go_of (s := { s with heap := h', toks := tk }) (n := "range_iterator") st' rfl rfl (by decide) ⟨.int (lo + (i : Nat) * c), H, I1, ⟨t, rfl⟩, ⟨rfl, rfl⟩, st', fun b hb => (hf b hb).1⟩⟩
  done := by
    intro X hP hw hK hc i pins s σ H E I hf st hg
    subst hP hw hK
    obtain ⟨f0, f1, f2, f3, f4, f5⟩ := hf it (by simp)
    exact wpAny_pyNext_range_end (I.ok.hd hc) st (by have : n ≤ i := hg; omega) fun h' eb => ⟨rfl, I.turned (t' := s.toks) (fun b o hb e => eb b o hb e) f0 f1 f3 f4 f5⟩
  self := fun A i s Q E st h => wpAny_pyIter_rangeiter st h
/-- range(i, j, c): small bounds, n items -/
def RgC (i j c : Int) (n : Nat) : Prop := c ≠ 0 ∧ c.natAbs < 1073741824 ∧ Builtin.Range.small i j c = true ∧ Builtin.Range.rangeSize i j c = n
theorem RgC.neg {i j : Int} (ha : -(2 ^ 62) ≤ i) (ha' : i < 2 ^ 62) (hb : -(2 ^ 62) ≤ j) (hb' : j < 2 ^ 62) : RgC i j (-1) (i - j).toNat :=
  ⟨by decide, by decide, PySem.W.small_down ha ha' hb hb', PySem.W.rangeSize_downNat i j⟩
def iRng3 (ta : TA) : TI := fun σ H R => ta σ H fun vs H1 => ∃ (i j c : Int) (n : Nat), vs = [.int i, .int j, .int c] ∧ RgC i j c n ∧ R (Itc i c n) H1
section
variable {X : Cx} {tg : Expr}
theorem pi_range3 {a b c : Expr} {ta : TA} {p pos : Pos} (hg : Gl X "range") (hm : X.mg "range" = none) (ha : PA X [a, b, c] ta)
    (hs : starEach [a, b, c] X.env = (false, eval a X.env) :: starEach [b, c] X.env := by rfl) (hpl : (backTo pos (starEach [b, c] X.env)).any (·.1) = false := by rfl) :
    PI X tg (.Call (.Name "range" p) [a, b, c] [] pos) (iRng3 ta) := by
  intro pins s σ H R I h
  refine Call_ (ld_blt I hg hm boot_range (PyProof.Rows.callWith_type1 (thn (ha pos pins s σ H _ I h) fun us s1 ⟨vs, H1, I1, r1, q1⟩ => ?_) hs hpl))
  obtain ⟨i, j, k, n, e, ⟨c0, c1, c2, c3⟩, q⟩ := q1
  subst e
  cases r1 with
  | cons r rr =>
    cases rr with
    | cons r' rr =>
      cases rr with
      | cons r'' rr =>
        cases rr
        obtain ⟨t, rfl⟩ := r
        obtain ⟨t', rfl⟩ := r'
        obtain ⟨t'', rfl⟩ := r''
        refine call_range_3 c0 ?_ (.inl (PyProof.noPylong_small c1))
        refine wpAny_pyIter_range (IsRange.new ..) c2 ?_
        have I2 : Inv X pins σ H1 { s1 with heap := s1.heap.push { cls := .type "range", data := .fields #[.int i t, .int j t', .int k t''] } } := I1.kept (t' := s1.toks) fun b o e => Heap.get?_push_of_some _ e
        refine pi_one (tk := s1.toks) I2 _ (turn_rangeC _ i k n) ?_ q
        have e1 : i + ((0 : Nat) : Int) * k = i := by simp
        have e2 : (n : Int) - ((0 : Nat) : Int) = Builtin.Range.rangeSize i j k := by rw [c3]; simp
        show IsRangeIter _ _ (i + ((0 : Nat) : Int) * k) ((n : Int) - ((0 : Nat) : Int)) k
        rw [e1, e2]
        exact Heap.get?_push_size _ rfl
end
/-- the turns of a step range, for the for loop -/
theorem for_rangeC {lo c : Int} {n : Nat} {g : TG} {tb : TS} {D : Ends} {σ : St} {H : Hp} (Pv : Nat → St → Hp → Prop) (h0 : Pv 0 σ H)
    (hs : ∀ i σ H, i < n → Pv i σ H → g (.int (lo + (i : Nat) * c)) σ H fun σ2 H2 => tb { D with nx := Pv (i + 1), ct := Pv (i + 1), bk := D.nx } σ2 H2) (hd : ∀ σ H, Pv n σ H → D.nx σ H) :
    ∃ W : Nat → Nat → St → Hp → Prop, (∃ m, W 0 m σ H) ∧ ∀ i m σ H, W i m σ H →
      ((Itc lo c n).stop i H ∧ D.nx σ H) ∨ ((Itc lo c n).go i H ∧ ∃ N : St → Hp → Prop, (∀ σ' H', N σ' H' → ∃ m', m' < m ∧ W (i + 1) m' σ' H') ∧ ∀ x H', (Itc lo c n).yld i H x H' → g x σ H' fun σ2 H2 => tb { D with nx := N, ct := N, bk := D.nx } σ2 H2) := by
  refine ⟨fun i m σ H => m = n - i ∧ i ≤ n ∧ Pv i σ H, ⟨n, by simp, Nat.zero_le _, h0⟩, ?_⟩
  rintro i m σ H ⟨rfl, hi, p⟩
  by_cases hlt : i < n
  · refine .inr ⟨hlt, Pv (i + 1), fun σ' H' p' => ⟨n - (i + 1), by omega, rfl, hlt, p'⟩, fun x H' y => ?_⟩
    obtain ⟨e, y⟩ := y
    subst e y
    exact hs i σ _ hlt p
  · have e : i = n := by omega
    subst e
    exact .inl ⟨Nat.le_refl _, hd σ H p⟩

section
variable {X : Cx} {tg : Expr}
end

/-! ### a dict's keys: any dict's entries -/
section
variable {prog : Program} {w : World} {A : Around} {E : Value → Shared → Prop} {s : Shared}
end

section
variable {X : Cx} {pins : List (Addr × Obj)} {σ : St} {H : Hp} {s : Shared} {d : Addr} {o : Obj}
end

section
variable {P : Program} {w : World} {K : PySem.W.Frag} {tg : Expr} {d : Addr} {o : Obj} {es : Array DictEntry} {ep : Nat}
end

section
variable {X : Cx} {tg e : Expr} {td : TE} {apos cpos : Pos}
end

/-! ### enumerate(list) -/
/-- the list at a as it stands at each turn, each item in a new pair -/
def Ite (K : PySem.W.Frag) (a : Addr) : It :=
  ⟨fun i H => ∃ (xs : List V) (x : V), SqL K H a xs ∧ xs[i]? = some x, fun i H v H' => ∃ T x, v = .ref T ∧ H T = none ∧ H' = upd H T (.tup [.int (i : Nat), x]) ∧ ∀ xs, SqL K H a xs → xs[i]? = some x, fun i H => ∃ xs : List V, SqL K H a xs ∧ xs.length ≤ i⟩
theorem turn_enum {P : Program} {w : World} {K : PySem.W.Frag} {elts : List Expr} {kk : Nat} {tpos : Pos} (a e it : Addr) :
    Turn P w K (.Tuple elts kk tpos) (Ite K a) [e, it] e (fun i h => (∃ old, IsEnum h e it ((i : Nat) : Int) old) ∧ h.IsListIter it a i ∧ e ≠ it) where
  mem := by simp
  obj := fun i h st b hb => by
    obtain ⟨⟨old, he⟩, ⟨o, ho, hc, hd⟩, _⟩ := st
    have e' : b = e ∨ b = it := by simpa using hb
    rcases e' with z | z
    · rw [z]; exact ⟨_, he, fun v q => nomatch q⟩
    · rw [z]; exact ⟨o, ho, fun v q => by rw [hd] at q; cases q⟩
  keep := fun i h h' st k => let ⟨⟨old, he⟩, hi, hne⟩ := st; ⟨⟨old, k e (by simp) _ he⟩, hi.at fun o q => k it (by simp) o q, hne⟩
  item := by
    intro X hP hw hK hc i pins s σ H E I hf st hg
    subst hP hw hK
    obtain ⟨⟨old, he⟩, hit, hne⟩ := st
    obtain ⟨xs, x, hq, hx⟩ := hg
    obtain ⟨its, rv, p, hz⟩ := I.list hq
    obtain ⟨u, hu, ru⟩ := rv.get hx
    have hel : e < s.heap.objs.size := Heap.lt_size he
    have hil : it < s.heap.objs.size := by obtain ⟨_, q, _⟩ := hit; exact Heap.lt_size q
    refine wpAny_pyNext_enum_item he hit p.isList (x := u) (by simpa using hu) hne fun h' ho hit' hT hsz hk => ?_
    refine ⟨_, rfl, wpAny_letOwnedTupleGo_enum (s := { s with heap := h', toks := s.toks + 1 }) ho fun h'' he' sb => ?_⟩
    have hT2 : h''.get? s.heap.objs.size = some { cls := .type "tuple", data := .seq #[.int i s.toks, u] } := (sb.2 _ (Nat.ne_of_gt hel)).trans hT
    have new : ObjOk X.prog X.w (upd H s.heap.objs.size (.tup [.int (i : Nat), x])) h'' s.heap.objs.size (.tup [.int (i : Nat), x]) :=
      ⟨by show 2 ≤ sizeLine; decide, [.int i s.toks, u], .cons ⟨_, rfl⟩ (.cons ru .nil), ⟨_, hT2, rfl, _, rfl⟩⟩
    have I1 : Inv X pins σ (upd H s.heap.objs.size (.tup [.int (i : Nat), x])) { s with heap := h'', toks := s.toks + 1 } :=
      I.turnedNew (ch := [e, it]) (fun b ob hb q => (sb.2 b (fun z => hb (by simp [z]))).trans (hk b ob (fun z => hb (by simp [z])) (fun z => hb (by simp [z])) q)) hf (Nat.le_refl _) new
    refine ⟨.ref s.heap.objs.size, _, I1, rfl, ⟨_, x, rfl, I.hok.fresh (Nat.le_refl _), rfl, fun ys hy => by rw [I.list_inj hy hq]; exact hx⟩, ⟨⟨u, ?_⟩, hit'.at fun o q => (sb.2 it (Ne.symm hne)).trans q, hne⟩, fun b hb => ?_⟩
    · have e1 : ((i + 1 : Nat) : Int) = (i : Int) + 1 := by omega
      rw [e1]; exact he'
    · have hb' : b < s.heap.objs.size := by
        have e' : b = e ∨ b = it := by simpa using hb
        rcases e' with z | z
        · rw [z]; exact hel
        · rw [z]; exact hil
      rw [upd_ne (Nat.ne_of_lt hb')]
      exact (hf b hb).1
  done := by
    intro X hP hw hK hc i pins s σ H E I hf st hg
    subst hP hw hK
    obtain ⟨⟨old, he⟩, hit, hne⟩ := st
    obtain ⟨xs, hq, hx⟩ := hg
    obtain ⟨its, rv, p, hz⟩ := I.list hq
    obtain ⟨f0, f1, f2, f3, f4, f5⟩ := hf it (by simp)
    have hl := rv.length
    exact wpAny_pyNext_enum_end (I.ok.hd hc) he hit p.isList (by simp; omega) fun h' eb => ⟨rfl, I.turned (t' := s.toks) (fun b o hb q => eb b o hb q) f0 f1 f3 f4 f5⟩
  self := fun A i s Q E st h => let ⟨⟨_, he⟩, _⟩ := st; wpAny_pyIter_enum he h
def iEnum (K : PySem.W.Frag) (ta : TA) : TI := fun σ H R => ta σ H fun vs H1 => ∃ a xs, vs = [.ref a] ∧ SqL K H1 a xs ∧ R (Ite K a) H1
theorem pi_enum {X : Cx} {e : Expr} {ta : TA} {p pos tpos : Pos} {elts : List Expr} {kk : Nat} (hg : Gl X "enumerate") (hm : X.mg "enumerate" = none) (ha : PA X [e] ta) (hs : starEach [e] X.env = [(false, eval e X.env)] := by rfl) :
    PI X (.Tuple elts kk tpos) (.Call (.Name "enumerate" p) [e] [] pos) (iEnum X.K ta) := by
  intro pins s σ H R I h
  refine Call_ (ld_blt I hg hm boot_enumerate (PyProof.Rows.callWith_type1 (thn (ha pos pins s σ H _ I h) fun us s1 ⟨vs, H1, I1, r1, q1⟩ => ?_) hs rfl))
  obtain ⟨a, xs, ex, hq, q⟩ := q1
  subst ex
  cases r1 with
  | cons r rr =>
    cases rr
    cases r
    obtain ⟨its, rv, p', hz⟩ := I1.list hq
    refine call_enumerate_list p'.isList fun h' he hit hsz hk => wpAny_pyIter_enum he ?_
    have I2 : Inv X pins σ H1 { s1 with heap := h' } := I1.kept (t' := s1.toks) hk
    refine ⟨s1.heap.objs.size + 1, [s1.heap.objs.size + 1, s1.heap.objs.size], _, _, H1, rfl, I2, turn_enum a (s1.heap.objs.size + 1) s1.heap.objs.size, ⟨⟨.none, he⟩, hit, Nat.succ_ne_self _⟩, fun b hb => ?_, q⟩
    have e' : b = s1.heap.objs.size + 1 ∨ b = s1.heap.objs.size := by simpa using hb
    have hle : s1.heap.objs.size ≤ b := by
      rcases e' with z | z
      · rw [z]; exact Nat.le_add_right _ _
      · rw [z]; exact Nat.le_refl _
    exact I1.fpOk hle (I1.hok.fresh hle)
/-! ### zip(list, list) -/
theorem boot_zip5 : bootBuiltins "zip" = some (.type "zip") := by decide +kernel
/-- the lists at a and b as they stand at each turn, the items in new pairs -/
def Itz (K : PySem.W.Frag) (a b : Addr) : It :=
  ⟨fun i H => ∃ (xs ys : List V) (x y : V), SqL K H a xs ∧ SqL K H b ys ∧ xs[i]? = some x ∧ ys[i]? = some y,
    fun i H v H' => ∃ T x y, v = .ref T ∧ H T = none ∧ H' = upd H T (.tup [x, y]) ∧ (∀ xs, SqL K H a xs → xs[i]? = some x) ∧ ∀ ys, SqL K H b ys → ys[i]? = some y,
    fun i H => ∃ xs ys : List V, SqL K H a xs ∧ SqL K H b ys ∧ (xs.length ≤ i ∨ ys.length ≤ i)⟩
theorem turn_zip {P : Program} {w : World} {K : PySem.W.Frag} {elts : List Expr} {kk : Nat} {tpos : Pos} {a b z TI TO i1 i2 : Addr} (D : ZipApart z TI TO i1 i2 a b) :
    Turn P w K (.Tuple elts kk tpos) (Itz K a b) [z, TI, TO, i1, i2] z (fun i h => IsZip h z TI TO .none ∧ IsPair h TI (.ref i1) (.ref i2) ∧ (∃ x y, IsPair h TO x y) ∧ h.IsListIter i1 a i ∧ h.IsListIter i2 b i) where
  mem := by simp
  obj := fun i h st c hc => by
    obtain ⟨hz, hTI, ⟨x, y, hTO⟩, ⟨o1, e1, _, d1⟩, ⟨o2, e2, _, d2⟩⟩ := st
    have e' : c = z ∨ c = TI ∨ c = TO ∨ c = i1 ∨ c = i2 := by simpa using hc
    rcases e' with q | q | q | q | q
    · rw [q]; exact ⟨_, hz, fun v q => nomatch q⟩
    · rw [q]; exact ⟨_, hTI, fun v q => nomatch q⟩
    · rw [q]; exact ⟨_, hTO, fun v q => nomatch q⟩
    · rw [q]; exact ⟨o1, e1, fun v q => by rw [d1] at q; cases q⟩
    · rw [q]; exact ⟨o2, e2, fun v q => by rw [d2] at q; cases q⟩
  keep := fun i h h' st k => by
    obtain ⟨hz, hTI, ⟨x, y, hTO⟩, h1, h2⟩ := st
    exact ⟨k z (by simp) _ hz, k TI (by simp) _ hTI, ⟨x, y, k TO (by simp) _ hTO⟩, h1.at fun o q => k i1 (by simp) o q, h2.at fun o q => k i2 (by simp) o q⟩
  item := by
    intro X hP hw hK hc i pins s σ H E I hf st hg
    subst hP hw hK
    obtain ⟨hz, hTI, ⟨x0, y0, hTO⟩, h1, h2⟩ := st
    obtain ⟨xs, ys, x, y, hqx, hqy, hx, hy⟩ := hg
    obtain ⟨its, rv, p, _⟩ := I.list hqx
    obtain ⟨its2, rv2, p2, _⟩ := I.list hqy
    obtain ⟨u, hu, ru⟩ := rv.get hx
    obtain ⟨u2, hu2, ru2⟩ := rv2.get hy
    have hzl : z < s.heap.objs.size := Heap.lt_size hz
    refine wpAny_pyNext_zip_item D hz hTI hTO h1 h2 p.isList p2.isList (x := u) (y := u2) (by simpa using hu) (by simpa using hu2) fun h' z' TO' h1' h2' hT hsz hk => ?_
    refine ⟨_, rfl, wpAny_letOwnedTupleGo_zip (s := { s with heap := h' }) z' fun h'' z'' sb => ?_⟩
    have hT2 : h''.get? s.heap.objs.size = some { cls := .type "tuple", data := .seq #[u, u2] } := (sb.2 _ (Nat.ne_of_gt hzl)).trans hT
    have new : ObjOk X.prog X.w (upd H s.heap.objs.size (.tup [x, y])) h'' s.heap.objs.size (.tup [x, y]) :=
      ⟨by show 2 ≤ sizeLine; decide, [u, u2], .cons ru (.cons ru2 .nil), ⟨_, hT2, rfl, _, rfl⟩⟩
    have I1 : Inv X pins σ (upd H s.heap.objs.size (.tup [x, y])) { s with heap := h'' } :=
      I.turnedNew (t' := s.toks) (ch := [z, TI, TO, i1, i2]) (fun c o hb q => (sb.2 c (fun q' => hb (by simp [q']))).trans (hk c o (fun q' => hb (by simp [q'])) (fun q' => hb (by simp [q'])) (fun q' => hb (by simp [q'])) (fun q' => hb (by simp [q'])) q)) hf (Nat.le_refl _) new
    refine ⟨.ref s.heap.objs.size, _, I1, rfl, ⟨_, x, y, rfl, I.hok.fresh (Nat.le_refl _), rfl, fun l hl => by rw [I.list_inj hl hqx]; exact hx, fun l hl => by rw [I.list_inj hl hqy]; exact hy⟩, ⟨z'', ?_, ⟨u, u2, ?_⟩, ?_, ?_⟩, fun c hcm => ?_⟩
    · exact (sb.2 _ D.TIz).trans (hk _ _ D.TIz D.TITO D.TIi1 D.TIi2 hTI)
    · exact (sb.2 _ D.TOz).trans TO'
    · exact h1'.at fun o q => (sb.2 _ D.i1z).trans q
    · exact h2'.at fun o q => (sb.2 _ D.i2z).trans q
    · have hlt : c < s.heap.objs.size := by
        have e' : c = z ∨ c = TI ∨ c = TO ∨ c = i1 ∨ c = i2 := by simpa using hcm
        rcases e' with q | q | q | q | q
        · rw [q]; exact hzl
        · rw [q]; exact Heap.lt_size hTI
        · rw [q]; exact Heap.lt_size hTO
        · rw [q]; obtain ⟨_, e1, _⟩ := h1; exact Heap.lt_size e1
        · rw [q]; obtain ⟨_, e2, _⟩ := h2; exact Heap.lt_size e2
      rw [upd_ne (Nat.ne_of_lt hlt)]
      exact (hf c hcm).1
  done := by
    intro X hP hw hK hc i pins s σ H E I hf st hg
    subst hP hw hK
    obtain ⟨hz, hTI, ⟨x0, y0, hTO⟩, h1, h2⟩ := st
    obtain ⟨xs, ys, hqx, hqy, hend⟩ := hg
    obtain ⟨its, rv, p, _⟩ := I.list hqx
    obtain ⟨its2, rv2, p2, _⟩ := I.list hqy
    have l1 := rv.length
    have l2 := rv2.length
    have he : its.toArray[i]? = none ∨ its2.toArray[i]? = none := by
      rcases hend with q | q
      · exact .inl (by simp; omega)
      · exact .inr (by simp; omega)
    exact wpAny_pyNext_zip_end (I.ok.hd hc) D hz hTI hTO h1 h2 p.isList p2.isList he fun h' hk => ⟨rfl, I.turnedL (t' := s.toks) (ch := [z, TI, TO, i1, i2]) (fun c o hb q =>
      hk c o (fun q' => hb (by simp [q'])) (fun q' => hb (by simp [q'])) (fun q' => hb (by simp [q'])) (fun q' => hb (by simp [q'])) q) hf⟩
  self := fun A i s Q E st h => wpAny_pyIter_zip st.1 h
def iZip (K : PySem.W.Frag) (ta : TA) : TI := fun σ H R => ta σ H fun vs H1 => ∃ a b xs ys, vs = [.ref a, .ref b] ∧ SqL K H1 a xs ∧ SqL K H1 b ys ∧ R (Itz K a b) H1
theorem pi_zip {X : Cx} {e e2 : Expr} {ta : TA} {p pos tpos : Pos} {elts : List Expr} {kk : Nat} (hg : Gl X "zip") (hm : X.mg "zip" = none) (ha : PA X [e, e2] ta)
    (hs : starEach [e, e2] X.env = (false, eval e X.env) :: starEach [e2] X.env := by rfl) (hpl : (backTo pos (starEach [e2] X.env)).any (·.1) = false := by rfl) :
    PI X (.Tuple elts kk tpos) (.Call (.Name "zip" p) [e, e2] [] pos) (iZip X.K ta) := by
  intro pins s σ H R I h
  refine Call_ (ld_blt I hg hm boot_zip5 (PyProof.Rows.callWith_type1 (thn (ha pos pins s σ H _ I h) fun us s1 ⟨vs, H1, I1, r1, q1⟩ => ?_) hs hpl))
  obtain ⟨a, b, xs, ys, ex, hqx, hqy, q⟩ := q1
  subst ex
  cases r1 with
  | cons r rr =>
    cases rr with
    | cons r' rr =>
      cases rr
      cases r
      cases r'
      obtain ⟨its, rv, p1, _⟩ := I1.list hqx
      obtain ⟨its2, rv2, p2, _⟩ := I1.list hqy
      have la : a < s1.heap.objs.size := p1.lt
      have lb : b < s1.heap.objs.size := p2.lt
      refine call_zip_2 p1.isList p2.isList fun h' hz hTI hTO h1 h2 hsz hk => wpAny_pyIter_zip hz ?_
      have I2 : Inv X pins σ H1 { s1 with heap := h' } := I1.kept (t' := s1.toks) hk
      refine ⟨s1.heap.objs.size + 4, [s1.heap.objs.size + 4, s1.heap.objs.size + 2, s1.heap.objs.size + 3, s1.heap.objs.size, s1.heap.objs.size + 1], _, _, H1, rfl, I2, turn_zip (PySem.W.ktu_apart s1.heap.objs.size a b la lb), ⟨hz, hTI, ⟨_, _, hTO⟩, h1, h2⟩, fun c hcm => ?_, q⟩
      have e' : c = s1.heap.objs.size + 4 ∨ c = s1.heap.objs.size + 2 ∨ c = s1.heap.objs.size + 3 ∨ c = s1.heap.objs.size ∨ c = s1.heap.objs.size + 1 := by simpa using hcm
      have hle : s1.heap.objs.size ≤ c := by
        rcases e' with z | z | z | z | z
        · rw [z]; exact Nat.le_add_right _ _
        · rw [z]; exact Nat.le_add_right _ _
        · rw [z]; exact Nat.le_add_right _ _
        · rw [z]; exact Nat.le_refl _
        · rw [z]; exact Nat.le_add_right _ _
      exact I1.fpOk hle (I1.hok.fresh hle)
end L2

section 
namespace Bits
open PySem PyProof.Rows

theorem nat_xor_add_and (m : Nat) : ∀ n : Nat, (m ^^^ n) + 2 * (m &&& n) = m + n := by
  induction m using Nat.strongRecOn with
  | _ m ih =>
    intro n
    by_cases h0 : m = 0
    · subst h0
      simp
    · have ih' := ih (m / 2) (by omega) (n / 2)
      rw [← Nat.xor_div_two, ← Nat.and_div_two] at ih'
      have o1 := @Nat.xor_mod_two_eq_one m n
      have a1 := @Nat.and_mod_two_eq_one m n
      omega

theorem bitXor_pp {x y : Int} (hx : 0 ≤ x) (hy : 0 ≤ y) : Builtin.bitXor x y = ((x.toNat ^^^ y.toNat : Nat) : Int) := by
  have e := nat_xor_add_and x.toNat y.toNat
  rw [bitXor_and, bitAnd_pp hx hy]
  omega
end Bits
end 

section 
namespace TL
open PySem PySem.Builtin PySem.Builtin.Str PySem.StrLaws

abbrev tl (x : Str) : List Nat := x.cps.toList
/-! ### the list functions -/
/-- S stands at the head of l -/
def pre (S l : List Nat) : Bool := l.take S.length == S
/-- what stands before the first S, and behind it -/
def par (S : List Nat) : List Nat → List Nat → Option (List Nat × List Nat)
  | _, [] => none
  | acc, c :: r => if pre S (c :: r) = true then some (acc, (c :: r).drop S.length) else par S (acc ++ [c]) r

end TL
end 

namespace L2
open PySem PySem.Spec PyProof.Rows

section
variable {X : Cx} {pins : List (Addr × Obj)} {σ : St} {H : Hp} {s : Shared} {Q : VK}
end

section
variable {X : Cx}

end

section
variable {X : Cx} {o e : Expr} {to te : TE}
end
end L2

namespace L2
open PySem PySem.Spec PyProof.Rows

section
variable {X : Cx}
end

/-! ### slices of a text -/
theorem IsPart.raw {v : Value} {o : Option Int} (p : IsPart v o) : ∃ l : Option (Int × Tok), v = partValue l ∧ l.map (·.1) = o := by
  cases p with
  | none => exact ⟨none, rfl, rfl⟩
  | int i t => exact ⟨some (i, t), rfl, rfl⟩

end L2

namespace Att
open PySem PySem.W PySem.Calls PyProof.Rows

/-! ### rules over ANY heap (no ledger) from facts about the written part K: the library's own take a ledger (News) for what they write -/
section
variable {prog : Program} {w : World} {A : Around} {E : Value → Shared → Prop} {s : Shared} {K : Frag}

end
end Att

namespace L2
open PySem PySem.Spec PyProof.Rows

end L2

namespace L2
open PySem PySem.Spec PyProof.Rows

end L2

/- THE LAST THEOREM (shape; LID, My.* are yours):
   My.Adr: a structure of the addresses that your layer names (classes, functions); My.Txt K t: a structure (Prop) of the equations over K;
   My.txt_mk : {K} {implicit addresses ..} (e1 : nsIn K mainGlobals "law" = some (some (.ref f))) (e2 : K.lookup f = some ⟨oc, od, .func (fnOf "law" "law" params body scope dV kV doc pm an cdv ct), sl⟩) (e3 : codeIn K cdv "law" = true) .. : ∃ t, My.Txt K t

set_option maxRecDepth 100000 in
set_option maxHeartbeats 0 in
theorem PySem.Challenge.cw_LID_holds : PySem.Challenge.rw_LID.Holds := by
  w_on; o_law; k_head; (case hw => w_witness2)
  k_fill
  refine L2.walk_of (l := PySem.Challenge.rw_LID) (n := 63) (k := 40) (x := "script") (CX := fun w => ..) (sp := fun _ => My.sp_law) rfl (by decide) rfl ⟨rfl, by decide, by decide⟩ (fun w h Y => PySem.W.kIn_of Y) ?F ?S ?C
  case F =>
    intro w mg fa h KX G hmg
    have T : ∃ t, My.Txt (L2.KOf KX) t := by
      dsimp only [L2.KOf]                          -- K must stand as «<heap const> w.params» for k_is
      refine' My.txt_mk ?e1 ?e2 ?e3 ..
      (case e1 => PySem.W.k_is)                    -- in the order: a name -> its address -> its object -> its parts
      (case e2 => PySem.W.k_is)
      ..
    obtain ⟨t, T⟩ := T
    have e0 := hmg.symm.trans (PySem.W.mg_of KX G T.law)
    cases e0                                       -- fa is the law's own address
    exact ⟨_, fun s u => .of_eq rfl, fun base kb nb => My.law_fn T kb nb⟩     -- if «.of_eq rfl» comes too early: refine' ⟨_, ?b, fun base kb nb => My.law_fn T kb nb⟩; exact fun s u => .of_eq rfl
  case S => exact fun w H a ns hl hO hS => ..
  case C => exact ..
(the tactic k_is has no namespace: write k_is) -/

/-! SHORT WORDS over the layer: a def of the text, its body, what a loop and a test want. -/
namespace L2
open PySem PySem.Spec PyProof.Rows

/-! ### the text by places -/
/-- the j-th statement of a class's body -/
def inClass (s : Stmt) (j : Nat) : Stmt := match s with
  | .ClassDef _ _ _ body _ _ _ _ _ _ _ => body.getD j (.Pass ⟨0, 0, 0, 0⟩)
  | _ => .Pass ⟨0, 0, 0, 0⟩
def defArgs (s : Stmt) : Arguments := match s with
  | .FunctionDef _ a _ _ _ _ _ _ _ _ => a
  | _ => { posonlyargs := [], args := [], vararg := none, kwonlyargs := [], kw_defaults := [], kwarg := none, defaults := [] }
def defBody (s : Stmt) : List Stmt := match s with
  | .FunctionDef _ _ b _ _ _ _ _ _ _ => b
  | _ => []
def defScope (s : Stmt) : Scope := match s with
  | .FunctionDef _ _ _ _ _ _ sc _ _ _ => sc
  | _ => { kind := .function, names := [], isGenerator := false, isCoroutine := false }

/-! ### no exception leaves a def -/
abbrev CX0 : CXT := fun _ _ _ _ _ _ => False
abbrev E0 : XK := fun _ _ _ => False
theorem pass0 {X : Cx} : Passes CX0 X E0 := fun _ _ _ _ _ _ _ h => h.elim

/-! ### a def (or method) of the text as it stands behind the top -/
structure Fun (K : PySem.W.Frag) (x qual : Str) (st : Stmt) (f : Addr) (fd : FuncData) : Prop where
  ex : ∃ (oc : Value) (od : Option Addr) (kV doc pm : Value) (an : Option Addr) (cdv ct : Value) (osl : Array (Option Value)),
    fd = PySem.W.fnOf x qual (defArgs st) (defBody st) (defScope st) .none kV doc pm an cdv ct ∧ K.lookup f = some ⟨oc, od, .func fd, osl⟩ ∧ PySem.W.codeIn K cdv qual = true
  kp : PySem.W.keepIn K (.ref f) = true
section
variable {P : Program} {w : World} {K : PySem.W.Frag} {mg : Str → Option Value} {base : Heap}
/-- THE RULE for a def: its body as a term of rules, and the reading of that term -/
theorem Fun.ok {x qual : Str} {st : Stmt} {f : Addr} {fd : FuncData} {N ps : List Str} {k : Nat} {sp : Sp} (F : Fun K x qual st f fd) (S : FnScope N ps (defScope st)) (len : ∀ vs H Q E, sp vs H Q E → vs.length = ps.length)
    (hbody : ∀ (cdv : Value) (A : Around) (outer : List Env) (s : Shared) (H : Hp) (vs : List V) (Q : VK) (E : XK), Room k (A.deeper (envOfC qual (defScope st) s.heap.objs.size f cdv)) → sp vs H Q E →
      ∃ t, PSs (cxOf CX0 P w K mg base N qual (defScope st) f cdv A outer s H E).nox (defBody st) t ∧ t { nx := fun _ H' => Q .non H', rt := Q } (start N vs) H) : FnOk P w K mg base CX0 (k + 1) f fd ps sp := by
  obtain ⟨oc, od, kV, doc, pm, an, cdv, ct, osl, rfl, lk, hcd⟩ := F.ex
  refine fn_of lk hcd S len fun A outer s H vs Q E hr hsp => ?_
  obtain ⟨t, h, q⟩ := hbody cdv A outer s H vs Q E hr hsp
  exact ⟨t, h.nox, q⟩
/-- how its arguments bind (no defaults): h is «fun _ _ _ _ _ _ us hl => match us, hl with | [_, _], _ => rfl», one _ a parameter -/
theorem Fun.binds {x qual : Str} {st : Stmt} {f : Addr} {fd : FuncData} {ps : List Str} (F : Fun K x qual st f fd)
    (h : ∀ (kV doc pm : Value) (an : Option Addr) (cdv ct : Value) (us : List Value), us.length = ps.length → bindArgs (PySem.W.fnOf x qual (defArgs st) (defBody st) (defScope st) .none kV doc pm an cdv ct) ⟨us, []⟩ = pure (ps.zip us)) : Binds K fd ps [] := by
  obtain ⟨oc, od, kV, doc, pm, an, cdv, ct, osl, rfl, lk, hcd⟩ := F.ex
  exact .all (h kV doc pm an cdv ct)
theorem fun_mk {x qual : Str} {st : Stmt} {f : Addr} {oc : Value} {od an : Option Addr} {osl : Array (Option Value)} {kV doc pm cdv ct : Value} (l : K.lookup f = some ⟨oc, od, .func (PySem.W.fnOf x qual (defArgs st) (defBody st) (defScope st) .none kV doc pm an cdv ct), osl⟩)
    (c : PySem.W.codeIn K cdv qual = true) (k : PySem.W.keepIn K (.ref f) = true) : Fun K x qual st f (PySem.W.fnOf x qual (defArgs st) (defBody st) (defScope st) .none kV doc pm an cdv ct) := ⟨⟨oc, od, kV, doc, pm, an, cdv, ct, osl, rfl, l, c⟩, k⟩
end
theorem hu_of {A : Around} {k : Nat} (hr : Room k A) : A.units + 1 < cLine := Nat.lt_of_le_of_lt (Nat.add_le_add_left (by decide : 1 ≤ 64) _) hr.units
/-! ### expressions in short: the name that stands in the i-th slot -/
section
variable {X : Cx}
theorem pv (i : Nat) {x : Str} {pos : Pos} (hN : X.N[i]? = some x := by rfl) (hv : Vis X.env.scope x := by first | exact Or.inl rfl | exact Or.inr (Or.inl rfl) | exact Or.inr (Or.inr rfl)) (hd : (x == ("__debug__" : Str)) = false := by decide)
    (hcd : (x == ("__classdict__" : Str)) = false := by decide) : PE X (.Name x pos) (tVar i) := pe_var hN hv hd hcd
end

/-! ### tests -/
theorem iteF {A B : Prop} (h : B) : if false = true then A else B := by
  rw [if_neg Bool.false_ne_true]
  exact h
theorem iteT {A B : Prop} (h : A) : if true = true then A else B := by
  rw [if_pos rfl]
  exact h
theorem ite2 {c A B : Prop} [Decidable c] (h1 : c → A) (h2 : ¬ c → B) : if c then A else B := by
  by_cases h : c
  · rw [if_pos h]
    exact h1 h
  · rw [if_neg h]
    exact h2 h
theorem iteNS {c A B : Prop} [Decidable c] (hc : c) (h : B) : if (!decide c) = true then A else B := by
  rw [decide_eq_true hc]
  exact iteF h

/-! ### heaps -/
/-- all that was tracked is as it was -/
def Same (H H' : Hp) : Prop := ∀ b o, H b = some o → H' b = some o
theorem Same.refl (H : Hp) : Same H H := fun _ _ h => h
theorem Same.trans {H H1 H2 : Hp} (a : Same H H1) (b : Same H1 H2) : Same H H2 := fun c o h => b c o (a c o h)
theorem Same.free {H H' : Hp} (e : Same H H') {l : Addr} (h : H' l = Option.none) : H l = Option.none := by
  cases q : H l with
  | none => rfl
  | some o =>
    rw [e l o q] at h
    cases h
theorem Same.seq {K : PySem.W.Frag} {H H' : Hp} {a : Addr} {xs : List V} (e : Same H H') (h : SqL K H a xs) : SqL K H' a xs := by
  rcases h with (h | ⟨o, h⟩) | h
  · exact .inl (.inl (e _ _ h))
  · exact .inl (.inr ⟨o, e _ _ h⟩)
  · exact .inr h

/-! ### a dict's pairs: keys that differ -/
section
variable {κ : Type} [DecidableEq κ]
end
/-! ### lists -/
theorem at_of {xs : List V} {z : Int} {j : Nat} {v : V} (e : z = (j : Int)) (h : xs[j]? = some v) : atI xs z = some v := by
  rw [e]
  exact atI_nat h
theorem nd_ix {α : Type} {l : List α} (hN : l.Nodup) {i j : Nat} {x : α} (a : l[i]? = some x) (b : l[j]? = some x) : i = j := by
  obtain ⟨h1, e1⟩ := List.getElem?_eq_some_iff.mp a
  obtain ⟨h2, e2⟩ := List.getElem?_eq_some_iff.mp b
  exact (List.getElem_inj hN).mp (e1.trans e2.symm)
/-- a new instance and its __init__ leave all that was tracked as it was -/
theorem Same.made {H H1 : Hp} {x dx C : Addr} (nx : H x = Option.none) (nd : H dx = Option.none) (k : ∀ b o, (upd (upd H dx (.own x)) x (.ins C dx [])) b = some o → b ≠ x → H1 b = some o) : Same H H1 := fun b o e =>
  k b o (by rw [upd_ne (ne_of_none e nx), upd_ne (ne_of_none e nd)]; exact e) (ne_of_none e nx)
end L2
section
set_option Elab.async false
set_option linter.all false
set_option maxRecDepth 100000
set_option maxHeartbeats 2000000
namespace L2
open PySem PySem.Spec PyProof.Rows
open PySem.W (WData Codec OpenSpec Well WellAll ReadsW ReadsAllW)
/-! ### an answer as data -/
mutual
/-- x stands for the datum d, lists and tuples all the way -/
inductive Dw (K : PySem.W.Frag) (H : Hp) : V → WData → Prop
  | non : Dw K H .non .none
  | bl (b : Bool) : Dw K H (.bl b) (.bool b)
  | int (i : Int) : Dw K H (.int i) (.int i)
  | str (x : Str) : Dw K H (.str x) (.str x)
  | byt (b : Array UInt8) : Dw K H (.byt b) (.bytes b.toList)
  | lst {a : Addr} {xs : List V} {ds : List WData} : SqL K H a xs → DwAll K H xs ds → Dw K H (.ref a) (.list ds)
  | tup {a : Addr} {xs : List V} {ds : List WData} : SqT K H a xs → DwAll K H xs ds → Dw K H (.ref a) (.tuple ds)
inductive DwAll (K : PySem.W.Frag) (H : Hp) : List V → List WData → Prop
  | nil : DwAll K H [] []
  | cons {v : V} {vs : List V} {d : WData} {ds : List WData} : Dw K H v d → DwAll K H vs ds → DwAll K H (v :: vs) (d :: ds)
end
theorem dw_ints {K : PySem.W.Frag} {H : Hp} : ∀ ns : List Int, DwAll K H (ns.map V.int) (ns.map WData.int)
  | [] => .nil
  | n :: r => .cons (.int n) (dw_ints r)
theorem ints_dw {K : PySem.W.Frag} {H : Hp} : ∀ (ns : List Int) (xs : List V), DwAll K H xs (ns.map WData.int) → xs = ns.map V.int
  | [], xs, h => by
    cases h
    rfl
  | n :: r, xs, h => by
    cases h with
    | cons h1 h2 =>
      cases h1
      rw [ints_dw r _ h2] <;> rfl
section
variable {P : Program} {w : World} {K : PySem.W.Frag} {H : Hp} {h : Heap} {R : PySem.W.WRecords} {cl : Str → Option Addr}
theorem sqL_at {a : Addr} {xs : List V} (hok : HOk P w H h) (KX : K.In h) (q : SqL K H a xs) : ∃ (its : List Value) (o : Obj) (n : Nat), Vals xs its ∧ h.get? a = some o ∧ o.cls = .type "list" ∧ o.data = .seq its.toArray n := by
  rcases q with q | ⟨o, its, n, e, hc, _, hd, _, hv⟩
  · obtain ⟨_, its, n, hv, e⟩ := (show ObjOk P w H h a (.lst xs) from q.ok hok)
    exact ⟨its, _, n, hv, e, rfl, rfl⟩
  · exact ⟨its.toList, o, n, hv, KX _ _ e, hc, by simp [hd]⟩
theorem sqT_at {a : Addr} {xs : List V} (hok : HOk P w H h) (KX : K.In h) (q : SqT K H a xs) : ∃ (its : List Value) (o : Obj) (n : Nat), Vals xs its ∧ h.get? a = some o ∧ o.cls = .type "tuple" ∧ o.data = .seq its.toArray n := by
  rcases q with q | ⟨o, its, n, e, hc, hd, _, hv⟩
  · obtain ⟨_, its, hv, o, e, hc, n, hd⟩ := (show ObjOk P w H h a (.tup xs) from q.ok hok)
    exact ⟨its, o, n, hv, e, hc, hd⟩
  · exact ⟨its.toList, o, n, hv, KX _ _ e, hc, by simp [hd]⟩
mutual
theorem Dw.reads (hok : HOk P w H h) (KX : K.In h) : ∀ (d : WData) (v : V) (u : Value), Dw K H v d → RelV v u → ∃ as, ReadsW R cl h u d as
  | .none, _, _, x, r => by
    cases x
    cases r
    exact ⟨_, ReadsW.none⟩
  | .bool b, _, _, x, r => by
    cases x
    cases r
    exact ⟨_, ReadsW.bool b⟩
  | .int i, _, _, x, r => by
    cases x
    obtain ⟨t, rfl⟩ := r
    exact ⟨_, ReadsW.int i t⟩
  | .str s, _, _, x, r => by
    cases x
    obtain ⟨t, rfl⟩ := r
    exact ⟨_, ReadsW.str s t⟩
  | .bytes b, _, _, x, r => by
    cases x
    obtain ⟨t, rfl⟩ := r
    exact ⟨_, ReadsW.bytes _ t⟩
  | .list ds, _, _, x, r => by
    cases x with
    | lst hs ha =>
      cases r
      obtain ⟨its, o, n, rv, ho, hc, hd⟩ := sqL_at hok KX hs
      obtain ⟨as, hr⟩ := Dw.readsAll hok KX ds _ its ha rv
      exact ⟨_, ReadsW.list ho hc hd hr⟩
  | .tuple ds, _, _, x, r => by
    cases x with
    | tup hs ha =>
      cases r
      obtain ⟨its, o, n, rv, ho, hc, hd⟩ := sqT_at hok KX hs
      obtain ⟨as, hr⟩ := Dw.readsAll hok KX ds _ its ha rv
      exact ⟨_, ReadsW.tuple ho hc hd hr⟩
  | .float _, _, _, x, _ => by cases x
  | .dict _, _, _, x, _ => by cases x
  | .bytearray _, _, _, x, _ => by cases x
  | .set _, _, _, x, _ => by cases x
  | .frozenset _, _, _, x, _ => by cases x
  | .obj _ _, _, _, x, _ => by cases x
theorem Dw.readsAll (hok : HOk P w H h) (KX : K.In h) : ∀ (ds : List WData) (vs : List V) (us : List Value), DwAll K H vs ds → Vals vs us → ∃ as, ReadsAllW R cl h us ds as
  | [], _, _, x, r => by
    cases x
    cases r
    exact ⟨_, ReadsAllW.nil⟩
  | d :: ds, _, _, x, r => by
    cases x with
    | cons h1 h2 =>
      cases r with
      | cons r1 r2 =>
        obtain ⟨as, q1⟩ := Dw.reads hok KX d _ _ h1 r1
        obtain ⟨bs, q2⟩ := Dw.readsAll hok KX ds _ _ h2 r2
        exact ⟨_, ReadsAllW.cons q1 q2⟩
end
end
/-! ### the arguments -/
mutual
/-- data that a codec tells -/
def plW : WData → Bool
  | .none => true
  | .bool _ => true
  | .int _ => true
  | .str _ => true
  | .bytes _ => true
  | .list xs => plWs xs
  | .tuple xs => plWs xs
  | _ => false
def plWs : List WData → Bool
  | [] => true
  | x :: r => plW x && plWs r
end
theorem plWs_map {α : Type} {f : α → WData} (h : ∀ a, plW (f a) = true) : ∀ l : List α, plWs (l.map f) = true
  | [] => rfl
  | x :: r => by
    show (plW (f x) && plWs (r.map f)) = true
    rw [h x, plWs_map h r] <;> rfl
theorem pl_enc : ∀ (c : Codec) (a : c.denote), plW (c.enc a) = true
  | .unit, _ => rfl
  | .bool, _ => rfl
  | .int _ _, _ => rfl
  | .nat _ _, _ => rfl
  | .u8, _ => rfl
  | .bytes _ _, _ => rfl
  | .text _ _ _ _, _ => rfl
  | .list _ _ c, a => plWs_map (fun x => pl_enc c x) a
  | .pair c d, a => by
    show (plW (c.enc a.1) && (plW (d.enc a.2) && true)) = true
    rw [pl_enc c a.1, pl_enc d a.2] <;> rfl
  | .triple c d e, a => by
    show (plW (c.enc a.1) && (plW (d.enc a.2.1) && (plW (e.enc a.2.2) && true))) = true
    rw [pl_enc c a.1, pl_enc d a.2.1, pl_enc e a.2.2] <;> rfl
  | .option c, none => rfl
  | .option c, some x => pl_enc c x
theorem pl_encAll : ∀ (cs : List Codec) (a : Codec.denoteAll cs), plWs (Codec.encAll cs a) = true
  | [], _ => rfl
  | c :: cs, a => by
    show (plW (c.enc a.1) && plWs (Codec.encAll cs a.2)) = true
    rw [pl_enc c a.1, pl_encAll cs a.2] <;> rfl
theorem weight_mem : ∀ {xs : List WData} {d : WData}, d ∈ xs → d.weight ≤ WData.weightAll xs
  | [], d, h => absurd h (by simp)
  | x :: r, d, h => by
    show d.weight ≤ x.weight + 1 + WData.weightAll r
    rcases List.mem_cons.mp h with e | m
    · rw [e]
      omega
    · have z := weight_mem m
      omega
def toV : Value → V
  | .none => .non
  | .bool b => .bl b
  | .int i _ => .int i
  | .str x _ => .str x
  | .bytes b _ => .byt b
  | .ref a => .ref a
  | _ => .non
/-- a value of the arguments, its objects among A -/
def OkU (A : List Addr) : Value → Prop
  | .none => True
  | .bool _ => True
  | .int _ _ => True
  | .str _ _ => True
  | .bytes _ _ => True
  | .ref a => a ∈ A
  | _ => False
theorem OkU.mono {A B : List Addr} (h : ∀ a ∈ A, a ∈ B) : ∀ {u : Value}, OkU A u → OkU B u := fun {u} x => by
  cases u with
  | ref a => exact h a x
  | none => trivial
  | bool b => trivial
  | int i t => trivial
  | str s t => trivial
  | bytes b t => trivial
  | _ => exact False.elim x
theorem relV_toV {A : List Addr} {u : Value} (x : OkU A u) : RelV (toV u) u := by
  cases u with
  | ref a => rfl
  | none => rfl
  | bool b => rfl
  | int i t => exact ⟨t, rfl⟩
  | str s t => exact ⟨t, rfl⟩
  | bytes b t => exact ⟨t, rfl⟩
  | _ => exact False.elim x
theorem vals_toV {A : List Addr} : ∀ {vs : List Value}, (∀ u ∈ vs, OkU A u) → Vals (vs.map toV) vs
  | [], _ => .nil
  | u :: r, h => .cons (relV_toV (h u (List.mem_cons_self ..))) (vals_toV fun x hx => h x (List.mem_cons_of_mem _ hx))
/-- an object of the arguments -/
def ArgOb (h : Heap) (A : List Addr) (a : Addr) : Prop := ∃ vs : List Value, vs.length ≤ sizeLine ∧ (∀ u ∈ vs, OkU A u) ∧
  (h.get? a = some { cls := .type "list", data := .seq vs.toArray } ∨ h.get? a = some { cls := .type "tuple", data := .seq vs.toArray })
theorem ArgOb.mono {h : Heap} {A B : List Addr} {a : Addr} (k : ∀ a ∈ A, a ∈ B) (x : ArgOb h A a) : ArgOb h B a := by
  obtain ⟨vs, h1, h2, h3⟩ := x
  exact ⟨vs, h1, fun u hu => (h2 u hu).mono k, h3⟩
theorem wellAll_len {P : Params} {h : Heap} : ∀ {vs : List Value} {ds : List WData}, WellAll P h vs ds → vs.length = ds.length
  | _, _, .nil => rfl
  | _, _, .cons _ b => by
    show _ + 1 = _ + 1
    rw [wellAll_len b]
theorem well_list {P : Params} {h : Heap} {v : Value} {ds : List WData} (x : Well P h v (.list ds)) : ∃ (a : Addr) (vs : List Value), v = .ref a ∧ h.get? a = some { cls := .type "list", data := .seq vs.toArray } ∧ WellAll P h vs ds := by
  cases x with
  | list ho hall => exact ⟨_, _, rfl, ho, hall⟩
theorem well_tuple {P : Params} {h : Heap} {v : Value} {ds : List WData} (x : Well P h v (.tuple ds)) : ∃ (a : Addr) (vs : List Value), v = .ref a ∧ h.get? a = some { cls := .type "tuple", data := .seq vs.toArray } ∧ WellAll P h vs ds := by
  cases x with
  | tuple ho hall => exact ⟨_, _, rfl, ho, hall⟩
theorem well_cons {P : Params} {h : Heap} {us : List Value} {d : WData} {ds : List WData} (x : WellAll P h us (d :: ds)) : ∃ (v : Value) (vs : List Value), us = v :: vs ∧ Well P h v d ∧ WellAll P h vs ds := by
  cases x with
  | cons a b => exact ⟨_, _, rfl, a, b⟩
theorem line_of {n : Nat} (h : n ≤ 1048576) : n ≤ sizeLine := Nat.le_trans h (by decide)
section
variable {P : Params} {h : Heap}
mutual
theorem area_one : ∀ (d : WData) (v : Value), Well P h v d → plW d = true → d.weight ≤ 1048576 → ∃ A : List Addr, OkU A v ∧ ∀ a ∈ A, ArgOb h A a
  | .none, _, x, _, _ => by
    cases x
    exact ⟨[], trivial, fun a m => absurd m (by simp)⟩
  | .bool b, _, x, _, _ => by
    cases x
    exact ⟨[], trivial, fun a m => absurd m (by simp)⟩
  | .int i, _, x, _, _ => by
    cases x
    exact ⟨[], trivial, fun a m => absurd m (by simp)⟩
  | .str s, _, x, _, _ => by
    cases x
    exact ⟨[], trivial, fun a m => absurd m (by simp)⟩
  | .bytes b, _, x, _, _ => by
    cases x
    exact ⟨[], trivial, fun a m => absurd m (by simp)⟩
  | .list ds, _, x, p, z => by
    obtain ⟨a, vs, rfl, ho, hall⟩ := well_list x
    have z2 : WData.weightAll ds ≤ 1048576 := z
    obtain ⟨A, h1, h2⟩ := area_all ds _ hall p fun d hd => Nat.le_trans (weight_mem hd) z2
    have k : ∀ b ∈ A, b ∈ a :: A := fun b hb => List.mem_cons_of_mem _ hb
    refine ⟨a :: A, List.mem_cons_self .., fun b hb => ?_⟩
    rcases List.mem_cons.mp hb with e | m
    · rw [e]
      exact ⟨vs, line_of (by rw [wellAll_len hall]; exact Nat.le_trans (PySem.W.length_le_weightAllW ds) z2), fun u hu => (h1 u hu).mono k, .inl ho⟩
    · exact (h2 b m).mono k
  | .tuple ds, _, x, p, z => by
    obtain ⟨a, vs, rfl, ho, hall⟩ := well_tuple x
    have z2 : WData.weightAll ds ≤ 1048576 := z
    obtain ⟨A, h1, h2⟩ := area_all ds _ hall p fun d hd => Nat.le_trans (weight_mem hd) z2
    have k : ∀ b ∈ A, b ∈ a :: A := fun b hb => List.mem_cons_of_mem _ hb
    refine ⟨a :: A, List.mem_cons_self .., fun b hb => ?_⟩
    rcases List.mem_cons.mp hb with e | m
    · rw [e]
      exact ⟨vs, line_of (by rw [wellAll_len hall]; exact Nat.le_trans (PySem.W.length_le_weightAllW ds) z2), fun u hu => (h1 u hu).mono k, .inr ho⟩
    · exact (h2 b m).mono k
  | .float _, _, _, p, _ => Bool.noConfusion (show false = true from p)
  | .dict _, _, _, p, _ => Bool.noConfusion (show false = true from p)
  | .bytearray _, _, _, p, _ => Bool.noConfusion (show false = true from p)
  | .set _, _, _, p, _ => Bool.noConfusion (show false = true from p)
  | .frozenset _, _, _, p, _ => Bool.noConfusion (show false = true from p)
  | .obj _ _, _, _, p, _ => Bool.noConfusion (show false = true from p)
theorem area_all : ∀ (ds : List WData) (vs : List Value), WellAll P h vs ds → plWs ds = true → (∀ d ∈ ds, d.weight ≤ 1048576) → ∃ A : List Addr, (∀ u ∈ vs, OkU A u) ∧ ∀ a ∈ A, ArgOb h A a
  | [], _, x, _, _ => by
    cases x
    exact ⟨[], fun u m => absurd m (by simp), fun a m => absurd m (by simp)⟩
  | d :: ds, _, x, p, z => by
    obtain ⟨v, vs, rfl, x1, x2⟩ := well_cons x
    have q : plW d = true ∧ plWs ds = true := Bool.and_eq_true_iff.mp p
    obtain ⟨A, a1, a2⟩ := area_one d v x1 q.1 (z d (List.mem_cons_self ..))
    obtain ⟨B, b1, b2⟩ := area_all ds vs x2 q.2 fun e he => z e (List.mem_cons_of_mem _ he)
    have kA : ∀ b ∈ A, b ∈ A ++ B := fun b hb => List.mem_append.mpr (.inl hb)
    have kB : ∀ b ∈ B, b ∈ A ++ B := fun b hb => List.mem_append.mpr (.inr hb)
    refine ⟨A ++ B, fun u hu => ?_, fun b hb => ?_⟩
    · rcases List.mem_cons.mp hu with e | m
      · rw [e]
        exact a1.mono kA
      · exact (b1 u m).mono kB
    · rcases List.mem_append.mp hb with m | m
      · exact (a2 b m).mono kA
      · exact (b2 b m).mono kB
end
end
/-- what is tracked of an argument's object -/
def hoOf (o : Obj) : Option HO := match o.data with
  | .seq vs _ => if (o.cls == Value.type "list") = true then some (.frz o (.lst (vs.toList.map toV))) else some (.frz o (.tup (vs.toList.map toV)))
  | _ => none
def argH (K : PySem.W.Frag) (h : Heap) (A : List Addr) : Hp := fun b => if b ∈ A then (if (K.lookup b).isNone = true then (h.get? b).bind hoOf else none) else none
/-- nothing is tracked but what is known to the object -/
def OnlyF (H : Hp) : Prop := ∀ b, H b = none ∨ ∃ o u, H b = some (.frz o u)
theorem hoOf_lst (vs : List Value) : hoOf { cls := .type "list", data := .seq vs.toArray } = some (.frz { cls := .type "list", data := .seq vs.toArray } (.lst (vs.map toV))) := by
  show (if (Value.type "list" == Value.type "list") = true then some (HO.frz { cls := .type "list", data := .seq vs.toArray } (.lst (vs.toArray.toList.map toV))) else some (HO.frz { cls := .type "list", data := .seq vs.toArray } (.tup (vs.toArray.toList.map toV)))) = _
  rw [if_pos (beq_self_eq_true _)]
theorem hoOf_tup (vs : List Value) : hoOf { cls := .type "tuple", data := .seq vs.toArray } = some (.frz { cls := .type "tuple", data := .seq vs.toArray } (.tup (vs.map toV))) := by
  show (if (Value.type "tuple" == Value.type "list") = true then some (HO.frz { cls := .type "tuple", data := .seq vs.toArray } (.lst (vs.toArray.toList.map toV))) else some (HO.frz { cls := .type "tuple", data := .seq vs.toArray } (.tup (vs.toArray.toList.map toV)))) = _
  rw [if_neg (by decide)]
section
variable {P : Program} {w : World} {K : PySem.W.Frag} {h : Heap} {A : List Addr}
theorem argH_at {b : Addr} {o : Obj} (hb : b ∈ A) (hk : K.lookup b = none) (e : h.get? b = some o) : argH K h A b = hoOf o := by
  unfold argH
  rw [if_pos hb, hk, if_pos (show (none : Option Obj).isNone = true from rfl), e] <;> rfl
theorem of_argH {b : Addr} {u : HO} (q : argH K h A b = some u) : b ∈ A ∧ K.lookup b = none := by
  unfold argH at q
  by_cases hb : b ∈ A
  · rw [if_pos hb] at q
    cases hk : K.lookup b with
    | none => exact ⟨hb, rfl⟩
    | some o =>
      rw [hk, if_neg (by simp)] at q
      cases q
  · rw [if_neg hb] at q
    cases q
/-- what stands tracked -/
theorem argH_is (ar : ∀ a ∈ A, ArgOb h A a) {b : Addr} {u : HO} (q : argH K h A b = some u) : K.lookup b = none ∧ ∃ vs : List Value, vs.length ≤ sizeLine ∧ (∀ u ∈ vs, OkU A u) ∧
    ((h.get? b = some { cls := .type "list", data := .seq vs.toArray } ∧ u = .frz { cls := .type "list", data := .seq vs.toArray } (.lst (vs.map toV))) ∨
     (h.get? b = some { cls := .type "tuple", data := .seq vs.toArray } ∧ u = .frz { cls := .type "tuple", data := .seq vs.toArray } (.tup (vs.map toV)))) := by
  obtain ⟨hb, hk⟩ := of_argH q
  obtain ⟨vs, h1, h2, h3⟩ := ar b hb
  refine ⟨hk, vs, h1, h2, ?_⟩
  rcases h3 with e | e
  · rw [argH_at hb hk e, hoOf_lst] at q
    exact .inl ⟨e, (Option.some.inj q).symm⟩
  · rw [argH_at hb hk e, hoOf_tup] at q
    exact .inr ⟨e, (Option.some.inj q).symm⟩
theorem argH_only (ar : ∀ a ∈ A, ArgOb h A a) : OnlyF (argH K h A) := fun b => by
  cases q : argH K h A b with
  | none => exact .inl rfl
  | some u =>
    obtain ⟨_, vs, _, _, ⟨_, e⟩ | ⟨_, e⟩⟩ := argH_is ar q
    · exact .inr ⟨_, _, by rw [e]⟩
    · exact .inr ⟨_, _, by rw [e]⟩
theorem argH_ok (ar : ∀ a ∈ A, ArgOb h A a) : HOk P w (argH K h A) h := fun b u q => by
  obtain ⟨_, vs, h1, h2, ⟨e, rfl⟩ | ⟨e, rfl⟩⟩ := argH_is ar q
  · exact ⟨e, by rw [List.length_map]; exact h1, vs, _, vals_toV h2, e⟩
  · exact ⟨e, by rw [List.length_map]; exact h1, vs, vals_toV h2, _, e, rfl, _, rfl⟩
theorem seq_inj {c c' : Value} {vs us : List Value} (e : (some { cls := c, data := .seq vs.toArray } : Option Obj) = some { cls := c', data := .seq us.toArray }) : c = c' ∧ vs = us := by
  have e1 := Option.some.inj e
  have e2 : c = c' := congrArg Obj.cls e1
  have e3 : Data.seq vs.toArray = Data.seq us.toArray := congrArg Obj.data e1
  injection e3 with e4
  refine ⟨e2, ?_⟩
  have e5 := congrArg Array.toList e4
  simpa using e5
/-- a list argument -/
theorem argL (KX : K.In h) (ar : ∀ a ∈ A, ArgOb h A a) {a : Addr} {vs : List Value} (ha : a ∈ A) (e : h.get? a = some { cls := .type "list", data := .seq vs.toArray }) : (∀ u ∈ vs, OkU A u) ∧ SqL K (argH K h A) a (vs.map toV) := by
  obtain ⟨us, h1, h2, h3⟩ := ar a ha
  have hu : us = vs := by
    rcases h3 with q | q
    · rw [e] at q
      exact (seq_inj q).2.symm
    · rw [e] at q
      exact absurd (Value.type.inj (seq_inj q).1) (by decide)
  subst hu
  refine ⟨h2, ?_⟩
  cases hk : K.lookup a with
  | none => exact .inl (.inr ⟨_, by rw [argH_at ha hk e, hoOf_lst]⟩)
  | some o =>
    have e2 := KX a o hk
    rw [e] at e2
    obtain rfl := Option.some.inj e2
    exact .inr ⟨_, us.toArray, _, hk, rfl, rfl, rfl, by rw [List.size_toArray]; exact h1, by simpa using vals_toV h2⟩
theorem argT (KX : K.In h) (ar : ∀ a ∈ A, ArgOb h A a) {a : Addr} {vs : List Value} (ha : a ∈ A) (e : h.get? a = some { cls := .type "tuple", data := .seq vs.toArray }) : (∀ u ∈ vs, OkU A u) ∧ SqT K (argH K h A) a (vs.map toV) := by
  obtain ⟨us, h1, h2, h3⟩ := ar a ha
  have hu : us = vs := by
    rcases h3 with q | q
    · rw [e] at q
      exact absurd (Value.type.inj (seq_inj q).1) (by decide)
    · rw [e] at q
      exact (seq_inj q).2.symm
  subst hu
  refine ⟨h2, ?_⟩
  cases hk : K.lookup a with
  | none => exact .inl (.inr ⟨_, by rw [argH_at ha hk e, hoOf_tup]⟩)
  | some o =>
    have e2 := KX a o hk
    rw [e] at e2
    obtain rfl := Option.some.inj e2
    exact .inr ⟨_, us.toArray, _, hk, rfl, rfl, by rw [List.size_toArray]; exact h1, by simpa using vals_toV h2⟩
mutual
theorem dw_one {Pm : Params} (KX : K.In h) (ar : ∀ a ∈ A, ArgOb h A a) : ∀ (d : WData) (v : Value), Well Pm h v d → plW d = true → OkU A v → Dw K (argH K h A) (toV v) d
  | .none, _, x, _, _ => by
    cases x
    exact .non
  | .bool b, _, x, _, _ => by
    cases x
    exact .bl b
  | .int i, _, x, _, _ => by
    cases x
    exact .int i
  | .str s, _, x, _, _ => by
    cases x
    exact .str s
  | .bytes b, _, x, _, _ => by
    cases x
    have z := Dw.byt (K := K) (H := argH K h A) b.toArray
    exact z
  | .list ds, _, x, p, hu => by
    obtain ⟨a, vs, rfl, ho, hall⟩ := well_list x
    obtain ⟨h2, hs⟩ := argL KX ar hu ho
    exact .lst hs (dw_all KX ar ds _ hall p h2)
  | .tuple ds, _, x, p, hu => by
    obtain ⟨a, vs, rfl, ho, hall⟩ := well_tuple x
    obtain ⟨h2, hs⟩ := argT KX ar hu ho
    exact .tup hs (dw_all KX ar ds _ hall p h2)
  | .float _, _, _, p, _ => Bool.noConfusion (show false = true from p)
  | .dict _, _, _, p, _ => Bool.noConfusion (show false = true from p)
  | .bytearray _, _, _, p, _ => Bool.noConfusion (show false = true from p)
  | .set _, _, _, p, _ => Bool.noConfusion (show false = true from p)
  | .frozenset _, _, _, p, _ => Bool.noConfusion (show false = true from p)
  | .obj _ _, _, _, p, _ => Bool.noConfusion (show false = true from p)
theorem dw_all {Pm : Params} (KX : K.In h) (ar : ∀ a ∈ A, ArgOb h A a) : ∀ (ds : List WData) (vs : List Value), WellAll Pm h vs ds → plWs ds = true → (∀ u ∈ vs, OkU A u) → DwAll K (argH K h A) (vs.map toV) ds
  | [], _, x, _, _ => by
    cases x
    exact .nil
  | d :: ds, _, x, p, hu => by
    obtain ⟨v, vs, rfl, x1, x2⟩ := well_cons x
    have q : plW d = true ∧ plWs ds = true := Bool.and_eq_true_iff.mp p
    exact .cons (dw_one KX ar d v x1 q.1 (hu _ (List.mem_cons_self ..))) (dw_all KX ar ds vs x2 q.2 fun u m => hu u (List.mem_cons_of_mem _ m))
end
end
/-! ### the call -/
theorem spec_call {P : Program} {w : World} {K : PySem.W.Frag} {mg mb : Str → Option Value} {CX : CXT} {k : Nat} {fa : Addr} {fd : FuncData} {ps : List Str} {sp : Sp} {s₁ : Shared} {vals : List Value} {ds : List WData} {R : PySem.W.WRecords} {cl : Str → Option Addr} {d0 : WData}
    (KX : K.In s₁.heap) (hns : s₁.heap.Ns mainGlobals mg) (hb : s₁.heap.Ns builtinsNs mb) (hbb : ∀ x : Str, x ≠ "__name__" → mb x = bootBuiltins x) (hlim : s₁.heap.NoLimit) (hg : s₁.gens = #[])
    (hwl : WellAll w.params s₁.heap vals ds) (hpl : plWs ds = true) (hwt : ∀ d ∈ ds, d.weight ≤ 1048576) (hr : Room k callerA)
    (F : ∀ base : Heap, K.In base → base.Ns mainGlobals mg → FnOk P w K mg base CX k fa fd ps sp) (hbind : ∀ (s : Shared) (us : List Value), us.length = ps.length → BindsTo s fd ⟨us, []⟩ (ps.zip us)) (hlen : ds.length = ps.length)
    (hsp : ∀ (H : Hp) (xs : List V), OnlyF H → DwAll K H xs ds → sp xs H (fun v H' => Dw K H' v d0) fun _ _ _ => False)
    (hCX : ∀ H e s', CX [] H s₁ (fun _ _ _ => False) e s' → False) :
    codeAny (model P w) callerA (.call (.ref fa) ⟨vals, []⟩) (fun r s' => ∃ u as, r = .ok (.ret u) ∧ ReadsW R cl s'.heap u d0 as ∧ OldK s₁.heap s'.heap ∧ s'.os = s₁.os ∧ AllBare s'.gens) s₁ := by
  obtain ⟨A, ho, ar⟩ := area_all ds vals hwl hpl hwt
  have hO : OnlyF (argH K s₁.heap A) := argH_only ar
  have hok : HOk P w (argH K s₁.heap A) s₁.heap := argH_ok ar
  have hS := dw_all KX ar ds vals hwl hpl ho
  have hV := vals_toV ho
  have hK : ∀ b u, argH K s₁.heap A b = some u → K.lookup b = none := fun b u q => (argH_is ar q).1
  have noA : ∀ {b : Addr} {o : Obj} {es : Array DictEntry} {ep : Nat}, s₁.heap.get? b = some o → o.data = .dict es ep → argH K s₁.heap A b = none := fun {b o es ep} e d => by
    cases q : argH K s₁.heap A b with
    | none => rfl
    | some u =>
      obtain ⟨_, vs, _, _, ⟨e2, _⟩ | ⟨e2, _⟩⟩ := argH_is ar q
      · rw [e2] at e
        cases e
        have d' : Data.seq vs.toArray _ = Data.dict es ep := d
        cases d'
      · rw [e2] at e
        cases e
        have d' : Data.seq vs.toArray _ = Data.dict es ep := d
        cases d'
  generalize argH K s₁.heap A = H at hO hok hS hK noA
  have base_of : ∀ {b : Addr} {o : Obj}, s₁.heap.get? b = some o → H b = none → (hidT s₁.heap H).get? b = some o := fun e n => hidT_get e n
  have nsK : ∀ {b : Addr} {m : Str → Option Value}, s₁.heap.Ns b m → (hidT s₁.heap H).Ns b m := fun {b m} ⟨o, es, ep, e, d, r⟩ => ⟨o, es, ep, base_of e (noA e d), d, r⟩
  have nK : ∀ b o, K.lookup b = some o → H b = none := fun b o e => by
    cases q : H b with
    | none => rfl
    | some u =>
      rw [hK b u q] at e
      cases e
  have hKb : K.In (hidT s₁.heap H) := fun b o e => base_of (KX b o e) (nK b o e)
  have hM : Mod K mg (hidT s₁.heap H) := ⟨hKb, nsK hns, ⟨mb, nsK hb, hbb⟩, let ⟨mc, h1, h2⟩ := hlim; ⟨mc, nsK h1, h2⟩⟩
  have e0 : Env0 P w K mg (hidT s₁.heap H) callerA [] s₁ H := ⟨rfl, hM, fun b o e => of_hidT e, Nat.le_of_eq (hidT_size _ _), trivial, fun b hb => absurd (show b ∈ ([] : List Addr) from hb) (by simp), hok, .of_eq hg⟩
  have hl : vals.length = ps.length := by rw [wellAll_len hwl]; exact hlen
  refine codeAny_mono ((F _ hKb (nsK hns)).run callerA [] s₁ H ⟨vals, []⟩ vals (vals.map toV) _ _ hr e0 (hbind s₁ vals hl) hV (hsp H _ hO hS)) fun r s' x => ?_
  cases r with
  | error e => exact (hCX H e s' x).elim
  | ok fl =>
    cases fl with
    | next => exact False.elim x
    | brk => exact False.elim x
    | cont => exact False.elim x
    | ret u =>
      obtain ⟨v, H', os, bare, un, hok', r', q⟩ := x
      have kept : ∀ b o, s₁.heap.get? b = some o → s'.heap.get? b = some o := fun b o e => by
        cases q2 : H b with
        | none => exact un.keep b o e q2 (by intro z; exact absurd (show b ∈ ([] : List Addr) from z) (by simp)) (by simp)
        | some u2 =>
          rcases hO b with z | ⟨ob, u3, z⟩
          · rw [q2] at z
            cases z
          · have z2 := un.frzs b ob _ z
            obtain ⟨e1, _⟩ := hok b _ z
            obtain ⟨e2, _⟩ := hok' b _ z2
            rw [e] at e1
            cases e1
            exact e2
      have KX' : K.In s'.heap := fun b o e => kept b o (KX b o e)
      obtain ⟨as, hrd⟩ := Dw.reads (R := R) (cl := cl) hok' KX' d0 v u q r'
      exact ⟨u, as, rfl, hrd, OldK.of_keep kept, os, bare⟩
/-! ### the row -/
theorem layable_weight {ds : List WData} (h : WData.layableAll ds = true) : ∀ d ∈ ds, d.weight ≤ 1048576 := fun d hd =>
  (PySem.W.layableW_iff.mp (List.all_eq_true.mp h d hd)).2.2
theorem encAll_len : ∀ (cs : List Codec) (a : Codec.denoteAll cs), (Codec.encAll cs a).length = cs.length
  | [], _ => rfl
  | c :: cs, a => by
    show (Codec.encAll cs a.2).length + 1 = cs.length + 1
    rw [encAll_len cs a.2]
/-- the goal that k_headS leaves (case hc), from the promise of the row's def: whatever the arguments that the codecs let and the row asks for, the def gives what stands for enc (f ..) -/
theorem walk_spec {r : OpenSpec} {k : Nat} {q : Program} {loose : List Str} {XP : (Str → Option Value) → Heap → Prop} {YP : World → Heap → Prop} {d : DefRec} {K : Params → PySem.W.Frag} {CX : World → CXT} {ps : List Str} {sp : World → Sp}
    (hwell : r.wellSaid = true) (hdf : d.params.defaults = []) (hlen : r.args.length = ps.length) (hr : Room k callerA)
    (hY : ∀ (w : World) (h : Heap), YP w h → (K w.params).In h)
    (F : ∀ (w : World) (mg : Str → Option Value) (fa : Addr) (h : Heap), YP w h → (K w.params).In h → h.Ns mainGlobals mg → mg d.name = some (.ref fa) →
      ∃ fd : FuncData, (∀ (s : Shared) (us : List Value), us.length = ps.length → BindsTo s fd ⟨us, []⟩ (ps.zip us)) ∧
        ∀ base : Heap, (K w.params).In base → base.Ns mainGlobals mg → FnOk r.prog w (K w.params) mg base (CX w) k fa fd ps (sp w))
    (hsp : ∀ (w : World) (H : Hp) (xs : List V) (a : Codec.denoteAll r.args), OnlyF H → Codec.withinAll r.args a = true → Codec.app r.args r.asked a = true → DwAll (K w.params) H xs (Codec.encAll r.args a) →
      sp w xs H (fun v H' => Dw (K w.params) H' v (r.ret.enc (Codec.app r.args r.f a))) fun _ _ _ => False)
    (hCX : ∀ (w : World) (H : Hp) (s : Shared) (e : Value) (s' : Shared), CX w [] H s (fun _ _ _ => False) e s' → False) :
    PySem.W.WalkOS q loose XP YP r d [] (fun f vs => PySem.call f vs) := by
  intro w s_0 s₁ mg mb G Y fa o pm cd doc dV kV ho hd hcd hD hmg hg args vals as hpre hlay hrd hwl hlo
  obtain ⟨a, e1, e2⟩ := PySem.W.os_pre_some hpre
  obtain ⟨e3, hwi⟩ := Codec.encAll_of_decAll r.args args a e1
  subst e3
  have KX := hY w _ Y
  obtain ⟨fd, hb, hF⟩ := F w mg fa _ Y KX G.T.g hmg
  refine PySem.W.enter_call (codeAny_mono (spec_call (R := []) (cl := classAt s_0.heap) (d0 := r.ret.enc (Codec.app r.args r.f a)) KX G.T.g G.T.b G.T.builtins G.T.nolimit hg hwl (pl_encAll _ _) (layable_weight hlay) hr hF hb (by rw [encAll_len]; exact hlen)
    (fun H xs hO hS => hsp w H xs a hO hwi e2 hS) fun H e s' => hCX w H s₁ e s') fun r' s' hq => ?_)
  obtain ⟨u, as', rfl, h1, h2, h3, h4⟩ := hq
  exact ⟨.inl ⟨u, _, as', rfl, fun _ => rfl, h1, (OpenSpec.post_iff hwell hwi _ _).mpr rfl, fun z => Bool.noConfusion (show false = true from z)⟩, h2, h3, h4⟩
/-- the same where the promise hangs on the written part alone -/
theorem walk_specK {r : OpenSpec} {k : Nat} {q : Program} {loose : List Str} {XP : (Str → Option Value) → Heap → Prop} {YP : World → Heap → Prop} {d : DefRec} {K : Params → PySem.W.Frag} {CX : CXT} {ps : List Str} {sp : PySem.W.Frag → Sp}
    (hwell : r.wellSaid = true) (hdf : d.params.defaults = []) (hlen : r.args.length = ps.length) (hr : Room k callerA)
    (hY : ∀ (w : World) (h : Heap), YP w h → (K w.params).In h)
    (F : ∀ (w : World) (mg : Str → Option Value) (fa : Addr) (h : Heap), YP w h → (K w.params).In h → h.Ns mainGlobals mg → mg d.name = some (.ref fa) →
      ∃ fd : FuncData, (∀ (s : Shared) (us : List Value), us.length = ps.length → BindsTo s fd ⟨us, []⟩ (ps.zip us)) ∧
        ∀ base : Heap, (K w.params).In base → base.Ns mainGlobals mg → FnOk r.prog w (K w.params) mg base CX k fa fd ps (sp (K w.params)))
    (hsp : ∀ (K : PySem.W.Frag) (H : Hp) (xs : List V) (a : Codec.denoteAll r.args), OnlyF H → Codec.withinAll r.args a = true → Codec.app r.args r.asked a = true → DwAll K H xs (Codec.encAll r.args a) →
      sp K xs H (fun v H' => Dw K H' v (r.ret.enc (Codec.app r.args r.f a))) fun _ _ _ => False)
    (hCX : ∀ (H : Hp) (s : Shared) (e : Value) (s' : Shared), CX [] H s (fun _ _ _ => False) e s' → False) :
    PySem.W.WalkOS q loose XP YP r d [] (fun f vs => PySem.call f vs) :=
  walk_spec (K := K) (CX := fun _ => CX) (sp := fun w => sp (K w.params)) hwell hdf hlen hr hY F (fun w H xs a h1 h2 h3 h4 => hsp (K w.params) H xs a h1 h2 h3 h4) fun _ H s e s' => hCX H s e s'
end L2
-- rests on (row put in by the clerk, for the bench that shows a file only what it spells): KE.SpHead KE.OsShapes
end
end
section
set_option Elab.async false
set_option linter.all false
set_option maxRecDepth 100000
/-! zip of a list and a tuple: the steps of its iterator -/
namespace TZ
open PySem
section
variable {prog : Program} {w : World} {A : Around} {E : Value → Shared → Prop} {s : Shared}
theorem nextT_item {j t : Addr} {n : Nat} {its} {v : Value} {Q : Value → Shared → Prop} (hj : s.heap.IsTupleIter j t n) (ht : s.heap.IsTuple t its) (hv : its[n]? = some v)
    (k : ∀ g, g.IsTupleIter j t (n + 1) → Heap.SameBut j s.heap g → Q v { s with heap := g }) : wpAny (model prog w) A (Builtin.SmallTypes.nextOf (.ref j)) Q E s := by
  obtain ⟨oj, e1, c1, d1⟩ := id hj
  obtain ⟨ot, e2, _, n2, d2⟩ := ht
  unfold Builtin.SmallTypes.nextOf
  refine wpAny_bind (wpAny_callSpecial?_slot (name := Str.ofString "__next__") hj.typeIs F.slot_tuple_iterator_next (wpAny_call_entry F.slot_tuple_iterator_next hj.typeIs F.entry_tuple_iterator_next ?_ (F.args_tuple_iterator_next_1 _)))
  show wpAny _ _ (field (.ref j) 0 >>= _) _ _ s
  refine wpAny_bind (wpAny_field e1 d1 (x := .ref t) rfl ?_)
  show wpAny _ _ (if (Value.ref t == Value.none) = true then _ else _) _ _ s; rw [if_neg (show ¬ ((Value.ref t == Value.none) = true) from Bool.false_ne_true)]
  show wpAny _ _ (field (.ref j) 1 >>= _) _ _ s
  refine wpAny_bind (wpAny_field e1 d1 (x := .int n 0) rfl ?_)
  show wpAny _ _ (seqItems? (.ref t) >>= _) _ _ s
  refine wpAny_bind (wpAny_seqItems e2 d2 ?_)
  simp only [Int.toNat_natCast, hv]
  refine wpAny_bind (wpAny_setField e1 d1 (by simp) (wpAny_pure ⟨v, rfl, wpAny_pure (k _ ?_ (Heap.SameBut.update ..))⟩))
  exact ⟨_, Heap.get?_update_self _ e1 (Obj.isFreed_of_fields (Obj.data_mapFields d1 _)), (Obj.cls_mapFields ..).trans c1, by rw [Obj.data_mapFields d1]; simp [rawInt]⟩
theorem nextT_end {j t : Addr} {n : Nat} {its} {Q : Value → Shared → Prop} (hh : A.handled = none) (hj : s.heap.IsTupleIter j t n) (ht : s.heap.IsTuple t its) (hv : its[n]? = none)
    (k : ∀ g e, Heap.ExtBut j s.heap g → (∃ o, g.get? e = some o ∧ o.cls = .type "StopIteration") → E (.ref e) { s with heap := g }) : wpAny (model prog w) A (Builtin.SmallTypes.nextOf (.ref j)) Q E s := by
  obtain ⟨oj, e1, c1, d1⟩ := id hj
  obtain ⟨ot, e2, _, n2, d2⟩ := ht
  unfold Builtin.SmallTypes.nextOf
  refine wpAny_bind (wpAny_callSpecial?_slot (name := Str.ofString "__next__") hj.typeIs F.slot_tuple_iterator_next (wpAny_call_entry F.slot_tuple_iterator_next hj.typeIs F.entry_tuple_iterator_next ?_ (F.args_tuple_iterator_next_1 _)))
  show wpAny _ _ (field (.ref j) 0 >>= _) _ _ s
  refine wpAny_bind (wpAny_field e1 d1 (x := .ref t) rfl ?_)
  show wpAny _ _ (if (Value.ref t == Value.none) = true then _ else _) _ _ s; rw [if_neg (show ¬ ((Value.ref t == Value.none) = true) from Bool.false_ne_true)]
  show wpAny _ _ (field (.ref j) 1 >>= _) _ _ s
  refine wpAny_bind (wpAny_field e1 d1 (x := .int n 0) rfl ?_)
  show wpAny _ _ (seqItems? (.ref t) >>= _) _ _ s
  refine wpAny_bind (wpAny_seqItems e2 d2 ?_)
  simp only [Int.toNat_natCast, hv]
  refine wpAny_bind (wpAny_rule (wpAny_bind (wpAny_setField e1 d1 (by simp) ?_)))
  show wpAny _ _ (newExc (.type "StopIteration") [] >>= _) _ _ _; refine wpAny_bind ?_
  simp only [newExc, newTuple]
  refine wpAny_bind (wpAny_newObj_type ?_ (by size_fits)); refine wpAny_bind (m := firstArgMember _ _) (wpAny_of_eq (a := Value.none) (by first | rfl | (simp only [firstArgMember]; rfl)) ?_)
  refine wpAny_newObj_type ?_ (by size_fits); simp only [raiseNew]
  refine wpAny_bind (wpAny_handled ?_); first | rw [show A.in1.handled = none from hh] | rw [hh]
  refine wpAny_bind (wpAny_pure (wpAny_throw ?_)); exact k _ _ (((Heap.SameBut.update ..).extBut.push _).push _) ⟨_, Heap.get?_push_size _ rfl, rfl⟩

theorem zn_item {z TI TO j1 j2 a1 a2 : Addr} {n : Nat} {xs ys : Array Value} {x y p q : Value} {Q : Value → Shared → Prop} (D : ZipApart z TI TO j1 j2 a1 a2)
    (hz : IsZip s.heap z TI TO .none) (hI : IsPair s.heap TI (.ref j1) (.ref j2)) (hO : IsPair s.heap TO p q) (h1 : s.heap.IsListIter j1 a1 n) (h2 : s.heap.IsTupleIter j2 a2 n) (l1 : s.heap.IsList a1 xs) (l2 : s.heap.IsTuple a2 ys) (hx : xs[n]? = some x) (hy : ys[n]? = some y)
    (k : ∀ g, IsZip g z TI TO (rawInt s.heap.objs.size) → IsPair g TO x y → g.IsListIter j1 a1 (n + 1) → g.IsTupleIter j2 a2 (n + 1) → IsPair g s.heap.objs.size x y → g.objs.size = s.heap.objs.size + 1 →
      (∀ c o, c ≠ z → c ≠ TO → c ≠ j1 → c ≠ j2 → s.heap.get? c = some o → g.get? c = some o) → Q (.ref s.heap.objs.size) { s with heap := g }) :
    wpAny (model prog w) A (Builtin.«zip.__next__» ⟨[.ref z], []⟩) (fun fin s' => ∃ v, fin = .done (.ret v) ∧ Q v s') E s := by
  show wpAny _ _ (field (.ref z) 2 >>= _) _ _ _; refine wpAny_bind (wpAny_field hz rfl (x := .bool false) rfl ?_)
  show wpAny _ _ (field (.ref z) 3 >>= _) _ _ _; refine wpAny_bind (wpAny_field hz rfl (x := .ref TI) rfl ?_)
  refine wpAny_bind (wpAny_seqItems hI rfl ?_)
  show wpAny _ _ (Builtin.SmallTypes.ownedTupleIsFree (.ref z) >>= _) _ _ _; refine wpAny_bind ?_
  unfold Builtin.SmallTypes.ownedTupleIsFree; refine wpAny_bind (wpAny_field hz rfl (x := .none) rfl (wpAny_pure ?_))
  simp only [if_true]; refine wpAny_bind (wpAny_rule ?_)
  refine wpAny_bind (wpAny_field hz rfl (x := .ref TO) rfl ?_); refine wpAny_bind (wpAny_setField_rec hz (by simp) fun g1 y1 b1 => ?_)
  replace y1 : IsZip g1 z TI TO .ellipsis := y1
  refine wpAny_bind ?_; simp only [List.zipIdx_cons, List.zipIdx_nil, List.forIn_cons, List.forIn_nil]
  refine wpAny_bind (wpAny_bind (wpAny_onRaise ?_)); show wpAny _ _ (Builtin.SmallTypes.nextOf (.ref j1) >>= _) _ _ _
  refine wpAny_bind (wpAny_nextOf_list_item (h1.extBut b1.extBut D.i1z) (l1.extBut b1.extBut D.l1z) hx fun g2 k2 b2 => wpAny_pure ?_)
  have o2 : IsPair g2 TO p q := b2.extBut _ _ D.TOi1 (b1.extBut _ _ D.TOz hO)
  refine wpAny_bind (wpAny_seqItems o2 rfl ?_); refine wpAny_bind (wpAny_updateSeq_pair o2 fun g3 o3 b3 => ?_)
  replace o3 : IsPair g3 TO x q := o3
  refine wpAny_bind (wpAny_letGo (wpAny_pure ?_)); refine wpAny_bind (wpAny_bind (wpAny_onRaise ?_))
  show wpAny _ _ (Builtin.SmallTypes.nextOf (.ref j2) >>= _) _ _ _
  refine wpAny_bind (nextT_item (((h2.extBut b1.extBut D.i2z).extBut b2.extBut D.i12.symm).extBut b3.extBut D.TOi2.symm) (((l2.extBut b1.extBut D.l2z).extBut b2.extBut D.l2i1).extBut b3.extBut D.l2TO) hy fun g4 k4 b4 => wpAny_pure ?_)
  have o4 : IsPair g4 TO x q := b4.extBut _ _ D.TOi2 o3
  refine wpAny_bind (wpAny_seqItems o4 rfl ?_); refine wpAny_bind (wpAny_updateSeq_pair o4 fun g5 o5 b5 => ?_)
  replace o5 : IsPair g5 TO x y := o5
  refine wpAny_bind (wpAny_letGo (wpAny_pure (wpAny_pure ?_))); refine wpAny_bind (wpAny_seqItems o5 rfl ?_); refine wpAny_bind (wpAny_newTuple ?_)
  have sz : g5.objs.size = s.heap.objs.size := by rw [b5.1, b4.1, b3.1, b2.1, b1.1]
  have y5 : IsZip g5 z TI TO .ellipsis := b5.extBut _ _ D.TOz.symm (b4.extBut _ _ D.i2z.symm (b3.extBut _ _ D.TOz.symm (b2.extBut _ _ D.i1z.symm y1)))
  have kp : ∀ c o, c ≠ z → c ≠ TO → c ≠ j1 → c ≠ j2 → s.heap.get? c = some o → g5.get? c = some o := fun c o n1 n2 n3 n4 e => b5.extBut _ _ n2 (b4.extBut _ _ n4 (b3.extBut _ _ n2 (b2.extBut _ _ n3 (b1.extBut _ _ n1 e))))
  have r1 : g5.IsListIter j1 a1 (n + 1) := ((k2.extBut b3.extBut D.TOi1.symm).extBut b4.extBut D.i12).extBut b5.extBut D.TOi1.symm
  have r2 : g5.IsTupleIter j2 a2 (n + 1) := k4.extBut b5.extBut D.TOi2.symm
  have zl : z < g5.objs.size := Heap.lt_size y5
  show wpAny _ _ (Builtin.SmallTypes.ownedTupleHandOut (.ref z) (.ref g5.objs.size) >>= _) _ _ _; refine wpAny_bind ?_
  unfold Builtin.SmallTypes.ownedTupleHandOut
  have y6 : IsZip (g5.push { cls := .type "tuple", data := .seq #[x, y] }) z TI TO .ellipsis := Heap.get?_push_of_some _ y5
  refine wpAny_bind (wpAny_setField_rec y6 (by simp) fun g7 y7 b7 => ?_)
  replace y7 : IsZip g7 z TI TO (rawInt g5.objs.size) := y7
  refine wpAny_setField_rec y7 (by simp) fun g8 y8 b8 => ?_
  replace y8 : IsZip g8 z TI TO (rawInt g5.objs.size) := y8
  have up : ∀ c o, c ≠ z → g5.get? c = some o → g8.get? c = some o := fun c o n1 e => b8.extBut _ _ n1 (b7.extBut _ _ n1 (Heap.get?_push_of_some _ e))
  have t8 : IsPair g8 g5.objs.size x y := b8.extBut _ _ (Nat.ne_of_gt zl) (b7.extBut _ _ (Nat.ne_of_gt zl) (Heap.get?_push_size _ rfl))
  have s8 : g8.objs.size = g5.objs.size + 1 := by rw [b8.1, b7.1, Heap.size_push]
  rw [sz] at y8 t8 s8
  refine wpAny_pure ⟨_, rfl, ?_⟩; show Q (.ref g5.objs.size) _; rw [sz]
  exact k g8 y8 (up _ _ D.TOz o5) (r1.at fun o e => up _ o D.i1z e) (r2.at fun o e => up _ o D.i2z e) t8 s8 fun c o n1 n2 n3 n4 e => up c o n1 (kp c o n1 n2 n3 n4 e)

theorem zn_end {z TI TO j1 j2 a1 a2 : Addr} {n : Nat} {xs ys : Array Value} {p q : Value} {Q : Fin → Shared → Prop} (hh : A.handled = none) (D : ZipApart z TI TO j1 j2 a1 a2)
    (hz : IsZip s.heap z TI TO .none) (hI : IsPair s.heap TI (.ref j1) (.ref j2)) (hO : IsPair s.heap TO p q) (h1 : s.heap.IsListIter j1 a1 n) (h2 : s.heap.IsTupleIter j2 a2 n) (l1 : s.heap.IsList a1 xs) (l2 : s.heap.IsTuple a2 ys) (he : xs[n]? = none ∨ ys[n]? = none)
    (k : ∀ g e, (∀ c o, c ≠ z → c ≠ TO → c ≠ j1 → c ≠ j2 → s.heap.get? c = some o → g.get? c = some o) → (∃ o, g.get? e = some o ∧ o.cls = .type "StopIteration") → E (.ref e) { s with heap := g }) :
    wpAny (model prog w) A (Builtin.«zip.__next__» ⟨[.ref z], []⟩) Q E s := by
  show wpAny _ _ (field (.ref z) 2 >>= _) _ _ _; refine wpAny_bind (wpAny_field hz rfl (x := .bool false) rfl ?_)
  show wpAny _ _ (field (.ref z) 3 >>= _) _ _ _; refine wpAny_bind (wpAny_field hz rfl (x := .ref TI) rfl ?_)
  refine wpAny_bind (wpAny_seqItems hI rfl ?_)
  show wpAny _ _ (Builtin.SmallTypes.ownedTupleIsFree (.ref z) >>= _) _ _ _; refine wpAny_bind ?_
  unfold Builtin.SmallTypes.ownedTupleIsFree; refine wpAny_bind (wpAny_field hz rfl (x := .none) rfl (wpAny_pure ?_))
  simp only [if_true]; refine wpAny_bind (wpAny_rule ?_)
  refine wpAny_bind (wpAny_field hz rfl (x := .ref TO) rfl ?_); refine wpAny_bind (wpAny_setField_rec hz (by simp) fun g1 y1 b1 => ?_)
  replace y1 : IsZip g1 z TI TO .ellipsis := y1
  refine wpAny_bind ?_; simp only [List.zipIdx_cons, List.zipIdx_nil, List.forIn_cons, List.forIn_nil]
  refine wpAny_bind (wpAny_bind (wpAny_onRaise ?_)); show wpAny _ _ (Builtin.SmallTypes.nextOf (.ref j1) >>= _) _ _ _
  cases hx : xs[n]? with
  | none =>
    refine wpAny_bind (wpAny_nextOf_list_end hh (h1.extBut b1.extBut D.i1z) (l1.extBut b1.extBut D.l1z) hx fun g2 e b2 se => ?_)
    obtain ⟨oe, x1, x2⟩ := se
    have y2 : IsZip g2 z TI TO .ellipsis := b2 _ _ D.i1z.symm y1
    have ez : e ≠ z := fun u => by subst u; rw [y2] at x1; cases x1; simp at x2
    refine wpAny_setField_rec y2 (by simp) fun g3 _ b3 => k g3 e (fun c o n1 _ n3 _ u => b3.extBut _ _ n1 (b2 _ _ n3 (b1.extBut _ _ n1 u))) ⟨oe, b3.extBut _ _ ez x1, x2⟩
  | some x =>
    have hy : ys[n]? = none := by rcases he with u | u; rw [hx] at u; cases u; exact u
    refine wpAny_bind (wpAny_nextOf_list_item (h1.extBut b1.extBut D.i1z) (l1.extBut b1.extBut D.l1z) hx fun g2 k2 b2 => wpAny_pure ?_)
    have o2 : IsPair g2 TO p q := b2.extBut _ _ D.TOi1 (b1.extBut _ _ D.TOz hO)
    refine wpAny_bind (wpAny_seqItems o2 rfl ?_); refine wpAny_bind (wpAny_updateSeq_pair o2 fun g3 o3 b3 => ?_)
    refine wpAny_bind (wpAny_letGo (wpAny_pure ?_)); refine wpAny_bind (wpAny_bind (wpAny_onRaise ?_))
    show wpAny _ _ (Builtin.SmallTypes.nextOf (.ref j2) >>= _) _ _ _
    refine wpAny_bind (nextT_end hh (((h2.extBut b1.extBut D.i2z).extBut b2.extBut D.i12.symm).extBut b3.extBut D.TOi2.symm) (((l2.extBut b1.extBut D.l2z).extBut b2.extBut D.l2i1).extBut b3.extBut D.l2TO) hy fun g4 e b4 se => ?_)
    obtain ⟨oe, x1, x2⟩ := se
    have y4 : IsZip g4 z TI TO .ellipsis := b4 _ _ D.i2z.symm (b3.extBut _ _ D.TOz.symm (b2.extBut _ _ D.i1z.symm y1))
    have ez : e ≠ z := fun u => by subst u; rw [y4] at x1; cases x1; simp at x2
    refine wpAny_setField_rec y4 (by simp) fun g5 _ b5 => k g5 e (fun c o n1 n2 n3 n4 u => b5.extBut _ _ n1 (b4 _ _ n4 (b3.extBut _ _ n2 (b2.extBut _ _ n3 (b1.extBut _ _ n1 u))))) ⟨oe, b5.extBut _ _ ez x1, x2⟩

theorem zp_item {z TI TO j1 j2 a1 a2 : Addr} {n : Nat} {xs ys : Array Value} {x y p q : Value} {Q : Option Value → Shared → Prop} (D : ZipApart z TI TO j1 j2 a1 a2)
    (hz : IsZip s.heap z TI TO .none) (hI : IsPair s.heap TI (.ref j1) (.ref j2)) (hO : IsPair s.heap TO p q) (h1 : s.heap.IsListIter j1 a1 n) (h2 : s.heap.IsTupleIter j2 a2 n) (l1 : s.heap.IsList a1 xs) (l2 : s.heap.IsTuple a2 ys) (hx : xs[n]? = some x) (hy : ys[n]? = some y)
    (k : ∀ g, IsZip g z TI TO (rawInt s.heap.objs.size) → IsPair g TO x y → g.IsListIter j1 a1 (n + 1) → g.IsTupleIter j2 a2 (n + 1) → IsPair g s.heap.objs.size x y → g.objs.size = s.heap.objs.size + 1 →
      (∀ c o, c ≠ z → c ≠ TO → c ≠ j1 → c ≠ j2 → s.heap.get? c = some o → g.get? c = some o) → Q (some (.ref s.heap.objs.size)) { s with heap := g }) : wpAny (model prog w) A (pyNext (.ref z)) Q E s := by
  have ty : s.TypeIs (.ref z) "zip" := ⟨_, hz, rfl⟩
  unfold pyNext
  exact wpAny_bind (wpAny_attempt (wpAny_callSpecial?_slot (name := Str.ofString "__next__") ty F.slot_zip_next (wpAny_call_entry F.slot_zip_next ty F.entry_zip_next (zn_item D hz hI hO h1 h2 l1 l2 hx hy fun g a1 a2 a3 a4 a5 a6 a7 => wpAny_pure (k g a1 a2 a3 a4 a5 a6 a7)) (F.args_zip_next_1 _))))
theorem zp_end {z TI TO j1 j2 a1 a2 : Addr} {n : Nat} {xs ys : Array Value} {p q : Value} {Q : Option Value → Shared → Prop} (hh : A.handled = none) (D : ZipApart z TI TO j1 j2 a1 a2)
    (hz : IsZip s.heap z TI TO .none) (hI : IsPair s.heap TI (.ref j1) (.ref j2)) (hO : IsPair s.heap TO p q) (h1 : s.heap.IsListIter j1 a1 n) (h2 : s.heap.IsTupleIter j2 a2 n) (l1 : s.heap.IsList a1 xs) (l2 : s.heap.IsTuple a2 ys) (he : xs[n]? = none ∨ ys[n]? = none)
    (k : ∀ g, (∀ c o, c ≠ z → c ≠ TO → c ≠ j1 → c ≠ j2 → s.heap.get? c = some o → g.get? c = some o) → Q none { s with heap := g }) : wpAny (model prog w) A (pyNext (.ref z)) Q E s := by
  have ty : s.TypeIs (.ref z) "zip" := ⟨_, hz, rfl⟩
  unfold pyNext
  refine wpAny_bind (wpAny_attempt (wpAny_callSpecial?_slot (name := Str.ofString "__next__") ty F.slot_zip_next (wpAny_call_entry F.slot_zip_next ty F.entry_zip_next (zn_end hh D hz hI hO h1 h2 l1 l2 he fun g e kp se => ?_) (F.args_zip_next_1 _))))
  obtain ⟨o, x1, x2⟩ := se
  refine wpAny_bind (wpAny_isInstance (T := "StopIteration") (b := true) ⟨o, x1, x2⟩ isSubtype_stop ?_); exact wpAny_pure (k _ kp)
end
abbrev zg1 (h : Heap) (a1 : Addr) : Heap := h.push { cls := .type "list_iterator", data := .fields #[.ref a1, .int 0 0] }
abbrev zg2 (h : Heap) (a1 a2 : Addr) : Heap := (zg1 h a1).push { cls := .type "tuple_iterator", data := .fields #[.ref a2, .int 0 0] }
abbrev zg3 (h : Heap) (a1 a2 : Addr) : Heap := (zg2 h a1 a2).push { cls := .type "tuple", data := .seq #[.ref h.objs.size, .ref (zg1 h a1).objs.size] }
abbrev zg4 (h : Heap) (a1 a2 : Addr) : Heap := (zg3 h a1 a2).push { cls := .type "tuple", data := .seq #[.none, .none] }
abbrev zg5 (h : Heap) (a1 a2 : Addr) : Heap := (zg4 h a1 a2).push { cls := .type "zip", data := .fields #[.none, .bool false, .bool false, .ref (zg2 h a1 a2).objs.size, .ref (zg3 h a1 a2).objs.size] }
theorem zt_new (a1 a2 : Addr) (xs ys : Array Value) : Meets (Builtin.«zip.__new__» ⟨[.type "zip", .ref a1, .ref a2], []⟩) (fun _ R s => s.heap.IsList a1 xs ∧ s.heap.IsTuple a2 ys ∧
      R (.ok (.ret (.ref (zg4 s.heap a1 a2).objs.size))) { s with heap := zg5 s.heap a1 a2 }) :=
  .of_wp fun prog w A R s h => by
    obtain ⟨hp, g, d, tk, os⟩ := s; obtain ⟨l1, l2, h⟩ := h
    have hsub := sub_zip
    have L1 : Heap.IsList (Shared.heap ⟨hp, g, d, tk, os⟩) a1 xs := l1
    have L2 : Heap.IsTuple (Shared.heap ⟨hp.push { cls := .type "list_iterator", data := .fields #[.ref a1, .int 0 0] }, g, d, tk, os⟩) a2 ys := Heap.IsTuple.push l2 _
    wp_walk using wpAny_pyIter_list L1, wpAny_pyIter_tuple L2
    exact ⟨_, rfl, h⟩
section
variable {prog : Program} {w : World} {A : Around} {E : Value → Shared → Prop} {s : Shared}
theorem zt_call {a1 a2 : Addr} {xs ys : Array Value} {Q : Value → Shared → Prop} (l1 : s.heap.IsList a1 xs) (l2 : s.heap.IsTuple a2 ys)
    (k : ∀ g, IsZip g (s.heap.objs.size + 4) (s.heap.objs.size + 2) (s.heap.objs.size + 3) .none → IsPair g (s.heap.objs.size + 2) (.ref s.heap.objs.size) (.ref (s.heap.objs.size + 1)) →
      IsPair g (s.heap.objs.size + 3) .none .none → g.IsListIter s.heap.objs.size a1 0 → g.IsTupleIter (s.heap.objs.size + 1) a2 0 → g.objs.size = s.heap.objs.size + 5 →
      (∀ c o, s.heap.get? c = some o → g.get? c = some o) → Q (.ref (s.heap.objs.size + 4)) { s with heap := g }) : wpAny (model prog w) A (call (.type "zip") [.ref a1, .ref a2]) Q E s := by
  refine callType_new F.called_zip (by decide) (F.typeCall_zip_2 _ _) (F.newCall_zip_2 _ _) (fun obj => F.args_object_init_3 obj _ _) F.entry_zip_new (zt_new a1 a2 xs ys) ⟨l1, l2, ?_⟩
  have z1 : (zg1 s.heap a1).objs.size = s.heap.objs.size + 1 := Heap.size_push ..
  have z2 : (zg2 s.heap a1 a2).objs.size = s.heap.objs.size + 2 := by rw [Heap.size_push, z1]
  have z3 : (zg3 s.heap a1 a2).objs.size = s.heap.objs.size + 3 := by rw [Heap.size_push, z2]
  have z4 : (zg4 s.heap a1 a2).objs.size = s.heap.objs.size + 4 := by rw [Heap.size_push, z3]
  have z5 : (zg5 s.heap a1 a2).objs.size = s.heap.objs.size + 5 := by rw [Heap.size_push, z4]
  have up : ∀ {h : Heap} (o : Obj) {c : Addr} {u : Obj}, h.get? c = some u → (h.push o).get? c = some u := fun o _ _ e => Heap.get?_push_of_some o e
  have g5 : (zg5 s.heap a1 a2).get? (zg4 s.heap a1 a2).objs.size = some _ := Heap.get?_push_size _ rfl
  have g4 : (zg5 s.heap a1 a2).get? (zg3 s.heap a1 a2).objs.size = some _ := up _ (Heap.get?_push_size _ rfl)
  have g3 : (zg5 s.heap a1 a2).get? (zg2 s.heap a1 a2).objs.size = some _ := up _ (up _ (Heap.get?_push_size _ rfl))
  have g2 : (zg5 s.heap a1 a2).get? (zg1 s.heap a1).objs.size = some _ := up _ (up _ (up _ (Heap.get?_push_size _ rfl)))
  have g1 : (zg5 s.heap a1 a2).get? s.heap.objs.size = some _ := up _ (up _ (up _ (up _ (Heap.get?_push_size _ rfl))))
  show _ ∧ _
  rw [z2, z3, z4] at g5
  rw [z1, z2] at g3
  rw [z3] at g4
  rw [z1] at g2
  rw [z4]
  exact ⟨⟨_, g5, rfl⟩, k _ g5 g3 g4 ⟨_, g1, rfl, rfl⟩ ⟨_, g2, rfl, rfl⟩ z5 fun c o e => up _ (up _ (up _ (up _ (up _ e))))⟩
end
end TZ
end
section
set_option Elab.async false
set_option linter.all false
set_option maxRecDepth 100000
set_option maxHeartbeats 2000000
/-! more rules over the layer: // by great divisors, list(range(n)), zip(list, tuple), a call of a value, defs by their promise alone -/
namespace TR
open PySem PySem.Spec PyProof.Rows L2
section
variable {X : Cx}
def CD (_ j : Int) : Prop := 0 < j ∧ j < 18446744073709551617
theorem op_fd : OpR X (binaryOp .FloorDiv) (rI CD fun i j => .int (i / j)) := opI fun i j _ _ _ _ _ hc q => by
  have h1 : (0 : Int) < j := hc.1
  have h2 : j < 18446744073709551617 := hc.2
  have h3 : j.natAbs.log2 < 65 := (Nat.log2_lt (by omega)).mpr (by rw [show (2 : Nat) ^ 65 = 36893488147419103232 by decide]; omega)
  exact floordiv_int (by omega) (by rw [Int.fdiv_eq_ediv_of_nonneg i (by omega)]; exact q) (.inl (PyProof.noPylong_of_log2 (by omega)))
/-- a weaker reading -/
theorem pe_wk {e : Expr} {t t' : TE} (h : PE X e t) (w : ∀ σ H Q, t' σ H Q → t σ H Q) : PE X e t' := fun pins s σ H Q I q => h pins s σ H Q I (w σ H Q q)
theorem pi_or {tg it : Expr} {w1 w2 : TI} (h1 : PI X tg it w1) (h2 : PI X tg it w2) : PI X tg it (fun σ H R => w1 σ H R ∨ w2 σ H R) := by
  intro pins s σ H R I q
  rcases q with q | q
  · exact h1 pins s σ H R I q
  · exact h2 pins s σ H R I q
end
/-! ### zip(list, tuple) -/
def Izt (K : PySem.W.Frag) (a b : Addr) : It :=
  ⟨fun i H => ∃ (xs ys : List V) (x y : V), SqL K H a xs ∧ SqT K H b ys ∧ xs[i]? = some x ∧ ys[i]? = some y,
    fun i H v H' => ∃ T x y, v = .ref T ∧ H T = none ∧ H' = upd H T (.tup [x, y]) ∧ (∀ xs, SqL K H a xs → xs[i]? = some x) ∧ ∀ ys, SqT K H b ys → ys[i]? = some y,
    fun i H => ∃ xs ys : List V, SqL K H a xs ∧ SqT K H b ys ∧ (xs.length ≤ i ∨ ys.length ≤ i)⟩
theorem turn_zt {P : Program} {w : World} {K : PySem.W.Frag} {elts : List Expr} {kk : Nat} {tpos : Pos} {a b z TI TO j1 j2 : Addr} (D : ZipApart z TI TO j1 j2 a b) :
    Turn P w K (.Tuple elts kk tpos) (Izt K a b) [z, TI, TO, j1, j2] z (fun i h => IsZip h z TI TO .none ∧ IsPair h TI (.ref j1) (.ref j2) ∧ (∃ x y, IsPair h TO x y) ∧ h.IsListIter j1 a i ∧ h.IsTupleIter j2 b i) where
  mem := by simp
  obj := fun i h st c hc => by
    obtain ⟨hz, hI, ⟨x, y, hO⟩, ⟨o1, e1, _, d1⟩, ⟨o2, e2, _, d2⟩⟩ := st
    have e' : c = z ∨ c = TI ∨ c = TO ∨ c = j1 ∨ c = j2 := by simpa using hc
    rcases e' with q | q | q | q | q <;> rw [q]
    · exact ⟨_, hz, fun v q => nomatch q⟩
    · exact ⟨_, hI, fun v q => nomatch q⟩
    · exact ⟨_, hO, fun v q => nomatch q⟩
    · exact ⟨o1, e1, fun v q => by rw [d1] at q; cases q⟩
    · exact ⟨o2, e2, fun v q => by rw [d2] at q; cases q⟩
  keep := fun i h h' st k => by
    obtain ⟨hz, hI, ⟨x, y, hO⟩, h1, h2⟩ := st
    exact ⟨k z (by simp) _ hz, k TI (by simp) _ hI, ⟨x, y, k TO (by simp) _ hO⟩, h1.at fun o q => k j1 (by simp) o q, h2.at fun o q => k j2 (by simp) o q⟩
  item := by
    intro X hP hw hK hc i pins s σ H E I hf st hg
    subst hP hw hK
    obtain ⟨hz, hI, ⟨x0, y0, hO⟩, h1, h2⟩ := st
    obtain ⟨xs, ys, x, y, qx, qy, hx, hy⟩ := hg
    obtain ⟨is1, r1, p1, _⟩ := I.list qx
    obtain ⟨is2, r2, p2, _⟩ := I.tuple qy
    obtain ⟨u1, e1, w1⟩ := r1.get hx
    obtain ⟨u2, e2, w2⟩ := r2.get hy
    have zl : z < s.heap.objs.size := Heap.lt_size hz
    refine TZ.zp_item D hz hI hO h1 h2 p1.isList p2 (x := u1) (y := u2) (by simpa using e1) (by simpa using e2) fun g z1 O1 k1 k2 T1 _ kp => ?_
    refine ⟨_, rfl, wpAny_letOwnedTupleGo_zip (s := { s with heap := g }) z1 fun g2 z2 sb => ?_⟩
    have T2 : g2.get? s.heap.objs.size = some { cls := .type "tuple", data := .seq #[u1, u2] } := (sb.2 _ (Nat.ne_of_gt zl)).trans T1
    have new : ObjOk X.prog X.w (upd H s.heap.objs.size (.tup [x, y])) g2 s.heap.objs.size (.tup [x, y]) := ⟨by show 2 ≤ sizeLine; decide, [u1, u2], .cons w1 (.cons w2 .nil), ⟨_, T2, rfl, _, rfl⟩⟩
    have I1 : Inv X pins σ (upd H s.heap.objs.size (.tup [x, y])) { s with heap := g2 } :=
      I.turnedNew (t' := s.toks) (ch := [z, TI, TO, j1, j2]) (fun c o hb q => (sb.2 c (fun q' => hb (by simp [q']))).trans (kp c o (fun q' => hb (by simp [q'])) (fun q' => hb (by simp [q'])) (fun q' => hb (by simp [q'])) (fun q' => hb (by simp [q'])) q)) hf (Nat.le_refl _) new
    refine ⟨.ref s.heap.objs.size, _, I1, rfl, ⟨_, x, y, rfl, I.hok.fresh (Nat.le_refl _), rfl, fun l hl => by rw [I.list_inj hl qx]; exact hx, fun l hl => by rw [I.tuple_inj hl qy]; exact hy⟩, ⟨z2, (sb.2 _ D.TIz).trans (kp _ _ D.TIz D.TITO D.TIi1 D.TIi2 hI), ⟨u1, u2, (sb.2 _ D.TOz).trans O1⟩, k1.at fun o q => (sb.2 _ D.i1z).trans q, k2.at fun o q => (sb.2 _ D.i2z).trans q⟩, fun c hcm => ?_⟩
    have lt : c < s.heap.objs.size := by
      have e' : c = z ∨ c = TI ∨ c = TO ∨ c = j1 ∨ c = j2 := by simpa using hcm
      rcases e' with q | q | q | q | q <;> rw [q]
      · exact zl
      · exact Heap.lt_size hI
      · exact Heap.lt_size hO
      · obtain ⟨_, e1, _⟩ := h1; exact Heap.lt_size e1
      · obtain ⟨_, e2, _⟩ := h2; exact Heap.lt_size e2
    rw [upd_ne (Nat.ne_of_lt lt)]
    exact (hf c hcm).1
  done := by
    intro X hP hw hK hc i pins s σ H E I hf st hg
    subst hP hw hK
    obtain ⟨hz, hI, ⟨x0, y0, hO⟩, h1, h2⟩ := st
    obtain ⟨xs, ys, qx, qy, hend⟩ := hg
    obtain ⟨is1, r1, p1, _⟩ := I.list qx
    obtain ⟨is2, r2, p2, _⟩ := I.tuple qy
    have l1 := r1.length
    have l2 := r2.length
    have he : is1.toArray[i]? = none ∨ is2.toArray[i]? = none := by
      rcases hend with q | q
      · exact .inl (by simp; omega)
      · exact .inr (by simp; omega)
    exact TZ.zp_end (I.ok.hd hc) D hz hI hO h1 h2 p1.isList p2 he fun g kp => ⟨rfl, I.turnedL (t' := s.toks) (ch := [z, TI, TO, j1, j2]) (fun c o hb q => kp c o (fun q' => hb (by simp [q'])) (fun q' => hb (by simp [q'])) (fun q' => hb (by simp [q'])) (fun q' => hb (by simp [q'])) q) hf⟩
  self := fun A i s Q E st h => wpAny_pyIter_zip st.1 h
def iZt (K : PySem.W.Frag) (ta : TA) : TI := fun σ H R => ta σ H fun vs H1 => ∃ a b xs ys, vs = [.ref a, .ref b] ∧ SqL K H1 a xs ∧ SqT K H1 b ys ∧ R (Izt K a b) H1
theorem pi_zt {X : Cx} {e e2 : Expr} {ta : TA} {p pos tpos : Pos} {elts : List Expr} {kk : Nat} (hg : Gl X "zip") (hm : X.mg "zip" = none) (ha : PA X [e, e2] ta)
    (hs : starEach [e, e2] X.env = (false, eval e X.env) :: starEach [e2] X.env := by rfl) (hpl : (backTo pos (starEach [e2] X.env)).any (·.1) = false := by rfl) : PI X (.Tuple elts kk tpos) (.Call (.Name "zip" p) [e, e2] [] pos) (iZt X.K ta) := by
  intro pins s σ H R I h
  refine Call_ (ld_blt I hg hm boot_zip5 (PyProof.Rows.callWith_type1 (thn (ha pos pins s σ H _ I h) fun us s1 ⟨vs, H1, I1, r1, q1⟩ => ?_) hs hpl))
  obtain ⟨a, b, xs, ys, ex, qx, qy, q⟩ := q1
  subst ex
  cases r1 with
  | cons r rr =>
    cases rr with
    | cons r' rr =>
      cases rr
      cases r
      cases r'
      obtain ⟨is1, _, p1, _⟩ := I1.list qx
      obtain ⟨is2, _, p2, _⟩ := I1.tuple qy
      have la : a < s1.heap.objs.size := p1.lt
      have lb : b < s1.heap.objs.size := by obtain ⟨_, e2, _⟩ := p2; exact Heap.lt_size e2
      refine TZ.zt_call p1.isList p2 fun g hz hI hO k1 k2 _ kp => wpAny_pyIter_zip hz ?_
      have I2 : Inv X pins σ H1 { s1 with heap := g } := I1.kept (t' := s1.toks) kp
      refine ⟨s1.heap.objs.size + 4, [s1.heap.objs.size + 4, s1.heap.objs.size + 2, s1.heap.objs.size + 3, s1.heap.objs.size, s1.heap.objs.size + 1], _, _, H1, rfl, I2, turn_zt (PySem.W.ktu_apart s1.heap.objs.size a b la lb), ⟨hz, hI, ⟨_, _, hO⟩, k1, k2⟩, fun c hcm => ?_, q⟩
      have hle : s1.heap.objs.size ≤ c := by
        have e' : c = s1.heap.objs.size + 4 ∨ c = s1.heap.objs.size + 2 ∨ c = s1.heap.objs.size + 3 ∨ c = s1.heap.objs.size ∨ c = s1.heap.objs.size + 1 := by simpa using hcm
        rcases e' with z | z | z | z | z <;> rw [z] <;> first | exact Nat.le_add_right _ _ | exact Nat.le_refl _
      exact I1.fpOk hle (I1.hok.fresh hle)
/-! ### list(range(n)) -/
section
variable {X : Cx}
def tRv (ta : TA) : TE := fun σ H Q => ta σ H fun vs H1 => ∃ j : Int, vs = [.int j] ∧ ∀ p, H1 p = none → Q (.ref p) (upd H1 p (.rng 0 j))
theorem pe_rv {a : Expr} {ta : TA} {p pos : Pos} (hg : Gl X "range") (hm : X.mg "range" = none) (ha : PA X [a] ta) (hs : starEach [a] X.env = [(false, eval a X.env)] := by rfl) : PE X (.Call (.Name "range" p) [a] [] pos) (tRv ta) := by
  intro pins s σ H Q I h
  refine Call_ (ld_blt I hg hm boot_range (PyProof.Rows.callWith_type1 (thn (ha pos pins s σ H _ I h) fun us s1 ⟨vs, H1, I1, r1, q1⟩ => ?_) hs rfl))
  obtain ⟨j, e, q⟩ := q1
  subst e
  cases r1 with
  | cons r rr =>
    cases rr
    obtain ⟨t, rfl⟩ := r
    exact call_range_1 ⟨.ref s1.heap.objs.size, _, I1.laid (o := .rng 0 j) (fun b o e => Heap.get?_push_of_some _ e) (Nat.le_refl _) ⟨_, _, _, Heap.get?_push_size _ rfl⟩, rfl, q _ (I1.hok.fresh (Nat.le_refl _))⟩
theorem cr_lr (hc : X.calm = true) : CallR X (.type "list") (fun xs H Q => ∃ (p : Addr) (n : Nat), xs = [.ref p] ∧ H p = some (.rng 0 n) ∧ n ≤ 2 ^ 24 ∧ ∀ l, H l = none → Q (.ref l) (upd H l (.lst ((List.range n).map fun (i : Nat) => V.int (i : Int))))) := by
  intro pins s σ H xs us Q I r h
  obtain ⟨p, n, rfl, hp, hn, q⟩ := h
  obtain ⟨u, rfl, rx⟩ := vals1 r
  cases rx
  obtain ⟨t, u, v, hr⟩ : ObjOk X.prog X.w H s.heap p (.rng 0 n) := I.hok p _ hp
  have hb : (n : Int) < 2 ^ 62 := by
    rw [show (2 : Nat) ^ 24 = 16777216 by decide] at hn
    rw [show (2 : Int) ^ 62 = 4611686018427387904 by decide]
    omega
  have hsz : Builtin.Range.rangeSize 0 (n : Int) 1 = n := by
    rw [rangeSize_one]
    split <;> omega
  refine call_list_range (I.ok.hd hc) hr (small_one (by decide) (by decide) (by rw [show (2 : Int) ^ 62 = 4611686018427387904 by decide]; omega) hb) hsz hn fun h' tk acc c' kp e it => ?_
  have vl : ∀ (L : List Value) (m : Nat), (∀ (j : Nat) (v : Value), L[j]? = some v → ∃ t, v = .int (((m + j : Nat) : Int)) t) → Vals ((List.range' m L.length).map fun (i : Nat) => V.int (i : Int)) L := by
    intro L
    induction L with
    | nil => intro m _; exact .nil
    | cons x L ih =>
      intro m hm
      refine .cons ?_ (ih (m + 1) fun j v hv => ?_)
      · obtain ⟨t, e⟩ := hm 0 x rfl
        exact ⟨t, e⟩
      · obtain ⟨t, e⟩ := hm (j + 1) v hv
        exact ⟨t, by rw [e]; congr 2; omega⟩
  have hl : acc.toList.length = n := by rw [Array.length_toList]; exact it.1
  have V1 := vl acc.toList 0 fun j v hv => by
    obtain ⟨t, e⟩ := it.2 j v (by simpa using hv)
    exact ⟨t, by rw [e]; congr 1; omega⟩
  rw [hl, ← List.range_eq_range'] at V1
  refine ⟨.ref s.heap.objs.size, _, I.laid kp (Nat.le_refl _) (show ObjOk X.prog X.w _ h' _ (.lst _) from ⟨?_, acc.toList, c', V1, by rw [Array.toArray_toList]; exact e⟩), rfl, q _ (I.hok.fresh (Nat.le_refl _))⟩
  rw [List.length_map, List.length_range, sizeLine_eq]
  exact hn
end
/-! ### a def by its promise -/
structure FX (P : Program) (w : World) (K : PySem.W.Frag) (mg : Str → Option Value) (base : Heap) (k : Nat) (f : Addr) (sp : Sp) : Prop where
  ex : ∃ (fd : FuncData) (ps : List Str), FnOk P w K mg base CX0 k f fd ps sp ∧ Binds K fd ps []
  kp : PySem.W.keepIn K (.ref f) = true
/-- a method -/
structure MX (P : Program) (w : World) (K : PySem.W.Frag) (mg : Str → Option Value) (base : Heap) (k : Nat) (C : Addr) (m : Str) (sp : Sp) : Prop where
  cl : Cls K C
  ex : ∃ f, Meth K C m f ∧ FX P w K mg base k f sp
/-- a class that is made -/
structure KX (P : Program) (w : World) (K : PySem.W.Frag) (mg : Str → Option Value) (base : Heap) (k : Nat) (C : Addr) (sp : Sp) : Prop where
  ex : ∃ f, Mk K C f ∧ FX P w K mg base k f sp
section
variable {X : Cx} {k : Nat} {f C : Addr} {sp : Sp} {x m : Str} {p pos apos : Pos} {e o c : Expr} {es : List Expr} {ta tc : TE} {t : TA}
def tFx (sp : Sp) (t : TA) : TE := fun σ H Q => t σ H fun vs H1 => sp vs H1 Q E0
def tMx (C : Addr) (m : Str) (sp : Sp) (ta : TE) (t : TA) : TE := fun σ H Q => ta σ H fun x H1 => ∃ a dx fs, x = .ref a ∧ H1 a = some (.ins C dx fs) ∧ fs.lookup m = none ∧ t σ H1 fun vs H2 => sp (x :: vs) H2 Q E0
def tKx (C : Addr) (sp : Sp) (t : TA) : TE := fun σ H Q => t σ H fun vs H1 => ∀ x dx, H1 x = none → H1 dx = none → dx ≠ x → sp (.ref x :: vs) (upd (upd H1 dx (.own x)) x (.ins C dx [])) (fun v H2 => v = .non ∧ Q (.ref x) H2) E0
theorem nilT {α : Type} {l : List α} : l ++ [] = l := List.append_nil l
theorem pe_fx (F : FX X.prog X.w X.K X.mg X.base k f sp) (hr : Room k X.A) (hm : X.mg x = some (.ref f)) (ha : PA X (e :: es) t) (hg : Gl X x := by rfl) (hdb : (x == ("__debug__" : Str)) = false := by decide)
    (he : starEach (e :: es) X.env = (false, eval e X.env) :: starEach es X.env := by rfl) (hpl : (backTo pos (starEach es X.env)).any (·.1) = false := by rfl) : PE X (.Call (.Name x p) (e :: es) [] pos) (tFx sp t) := by
  obtain ⟨⟨fd, ps, G, b⟩, kp⟩ := F
  have h := pe_call (pos := pos) (p := p) (E := E0) (dvs := []) (ds := []) G hr hg hm kp b .nil pass0 ha hdb he hpl
  have q : tCall sp [] E0 t = tFx sp t := by
    funext σ H Q
    unfold tCall tFx
    simp only [List.append_nil]
  rw [q] at h
  exact h
theorem pe_mx {pl : Sem Bool} (ho : PE X o ta) (M : MX X.prog X.w X.K X.mg X.base k C m sp) (hr : Room k X.A) (ha : PA X (e :: es) t)
    (hst : starEach (e :: es) X.env = (false, eval e X.env) :: starEach es X.env := by rfl) (hpl : (backTo pos (starEach es X.env)).any (·.1) = false := by rfl)
    (ht : eval (.Call (.Attribute o m apos) (e :: es) [] pos) X.env = (do
      let ov ← eval o X.env
      standAt apos.atName
      let (f, first) ← holding [ov] (getMethod ov m pl)
      callWith pos f first (backTo pos (starEach (e :: es) X.env)) (backToKw pos (keywordEach [] X.env))) := by rfl) : PE X (.Call (.Attribute o m apos) (e :: es) [] pos) (tMx C m sp ta t) := by
  obtain ⟨cl, f, hm, ⟨fd, ps, G, b⟩, kp⟩ := M
  have h := pe_meth (pos := pos) (apos := apos) (E := E0) (dvs := []) (ds := []) ho cl hm G hr b .nil pass0 ha hst hpl ht
  have q : tMeth C m sp [] E0 ta t = tMx C m sp ta t := by
    funext σ H Q
    unfold tMeth tMx
    simp only [List.append_nil]
  rw [q] at h
  exact h
theorem pe_mx0 {pl : Sem Bool} (ho : PE X o ta) (M : MX X.prog X.w X.K X.mg X.base k C m sp) (hr : Room k X.A)
    (ht : eval (.Call (.Attribute o m apos) [] [] pos) X.env = (do
      let ov ← eval o X.env
      standAt apos.atName
      let (f, first) ← holding [ov] (getMethod ov m pl)
      callWith pos f first (backTo pos (starEach [] X.env)) (backToKw pos (keywordEach [] X.env))) := by rfl) : PE X (.Call (.Attribute o m apos) [] [] pos) (tMx C m sp ta tNil) := by
  obtain ⟨cl, f, hm, ⟨fd, ps, G, b⟩, kp⟩ := M
  have h := pe_meth0 (pos := pos) (apos := apos) (E := E0) (dvs := []) (ds := []) ho cl hm G hr b .nil pass0 ht
  have q : tMeth C m sp [] E0 ta tNil = tMx C m sp ta tNil := by
    funext σ H Q
    unfold tMeth tMx
    simp only [List.append_nil]
  rw [q] at h
  exact h
theorem pe_kx (M : KX X.prog X.w X.K X.mg X.base k C sp) (hr : Room (k + 1) X.A) (hm : X.mg x = some (.ref C)) (ha : PA X (e :: es) t) (hg : Gl X x := by rfl) (hdb : (x == ("__debug__" : Str)) = false := by decide)
    (he : starEach (e :: es) X.env = (false, eval e X.env) :: starEach es X.env := by rfl) (hpl : (backTo pos (starEach es X.env)).any (·.1) = false := by rfl) : PE X (.Call (.Name x p) (e :: es) [] pos) (tKx C sp t) := by
  obtain ⟨f, mk, ⟨fd, ps, G, b⟩, kp⟩ := M
  have h := pe_make (pos := pos) (p := p) (E := E0) (dvs := []) (ds := []) mk G hr hg hm b .nil pass0 ha hdb he hpl
  have q : tMake C sp [] E0 t = tKx C sp t := by
    funext σ H Q
    unfold tMake tKx
    simp only [List.append_nil]
  rw [q] at h
  exact h
theorem pe_kx0 (M : KX X.prog X.w X.K X.mg X.base k C sp) (hr : Room (k + 1) X.A) (hm : X.mg x = some (.ref C)) (hg : Gl X x := by rfl) (hdb : (x == ("__debug__" : Str)) = false := by decide) : PE X (.Call (.Name x p) [] [] pos) (tKx C sp tNil) := by
  obtain ⟨f, mk, ⟨fd, ps, G, b⟩, kp⟩ := M
  have h := pe_make0 (pos := pos) (p := p) (E := E0) (dvs := []) (ds := []) mk G hr hg hm b .nil pass0 hdb
  have q : tMake C sp [] E0 tNil = tKx C sp tNil := by
    funext σ H Q
    unfold tMake tKx
    simp only [List.append_nil]
  rw [q] at h
  exact h
/-- a call of a value: c(e, ..) -/
def tVx (X : Cx) (tc : TE) (t : TA) : TE := fun σ H Q => tc σ H fun x H1 => ∃ (f : Addr) (k : Nat) (sp : Sp), x = .ref f ∧ FX X.prog X.w X.K X.mg X.base k f sp ∧ Room k X.A ∧ t σ H1 fun vs H2 => sp vs H2 Q E0
theorem pe_vx (hc : PE X c tc) (ha : PA X (e :: es) t)
    (hv : eval (.Call c (e :: es) [] pos) X.env = (do callWith pos (← eval c X.env) [] (backTo pos (starEach (e :: es) X.env)) (backToKw pos (keywordEach [] X.env))) := by rfl)
    (he : starEach (e :: es) X.env = (false, eval e X.env) :: starEach es X.env := by rfl) (hpl : (backTo pos (starEach es X.env)).any (·.1) = false := by rfl) : PE X (.Call c (e :: es) [] pos) (tVx X tc t) := by
  intro pins s σ H Q I h
  refine Call_ (thn (hc pins s σ H _ I h) fun u s1 ⟨y, H1, I1, r1, q1⟩ => ?_) hv
  obtain ⟨f, k, sp, rfl, ⟨⟨fd, ps, G, b⟩, kp⟩, hr, q⟩ := q1
  obtain rfl : u = Value.ref f := r1
  refine PySem.W.callWith_K (h₀ := X.base) I1.ok.mod.kin kp (thn (ha pos pins s1 σ H1 _ I1 q) fun us s2 ⟨vs, H2, I2, r, q2⟩ => ⟨I2.kIn, ?_⟩) he hpl
  exact run_fn (dvs := []) (ds := []) G hr b .nil pass0 I2 r (by rw [List.append_nil]; exact q2)
end
end TR
end
section
set_option Elab.async false
namespace TS
open Vbwsak
/-! ### the steps of a tick are always enough -/
theorem sumOf_go : ∀ (l : List Nat) (a : Nat), l.foldl (fun a b => a + b) a = a + sumOf l
  | [], a => by simp [sumOf]
  | x :: l, a => by
    show l.foldl (fun a b => a + b) (a + x) = a + (l.foldl (fun a b => a + b) (0 + x))
    rw [sumOf_go l, sumOf_go l]; omega
theorem sumOf_cons (x : Nat) (l : List Nat) : sumOf (x :: l) = x + sumOf l := by
  show l.foldl (fun a b => a + b) (0 + x) = _
  rw [sumOf_go]; omega
theorem sumOf_nil : sumOf [] = 0 := rfl
theorem jobsIn_cons (p : Player) (l : List Player) : jobsIn (p :: l) = p.jobs.length + jobsIn l := by
  unfold jobsIn
  rw [List.map_cons, sumOf_cons]
theorem jobsIn_set : ∀ {l : List Player} {i : Nat} {p : Player} (p' : Player), l[i]? = some p → jobsIn (l.set i p') + p.jobs.length = jobsIn l + p'.jobs.length
  | [], i, p, p', h => by simp at h
  | a :: l, 0, p, p', h => by
    have e : a = p := Option.some.inj h
    subst e
    show jobsIn (p' :: l) + _ = _
    rw [jobsIn_cons, jobsIn_cons]; omega
  | a :: l, i + 1, p, p', h => by
    have ih := jobsIn_set (l := l) (i := i) (p := p) p' h
    show jobsIn (a :: l.set i p') + _ = _
    rw [jobsIn_cons, jobsIn_cons]; omega
theorem jobsIn_append : ∀ (a b : List Player), jobsIn (a ++ b) = jobsIn a + jobsIn b
  | [], b => by show jobsIn b = jobsIn [] + jobsIn b; show _ = 0 + _; omega
  | p :: a, b => by
    show jobsIn (p :: (a ++ b)) = _
    rw [jobsIn_cons, jobsIn_cons, jobsIn_append a b]; omega
theorem idle_of {l : List Player} (h : ∀ (i : Nat) (p : Player), l[i]? = some p → p.jobs = []) : idle l = true := by
  unfold idle
  rw [List.all_eq_true]
  intro p hp
  obtain ⟨i, hi⟩ := List.getElem?_of_mem hp
  rw [h i p hi]; rfl
theorem not_idle {l : List Player} {i : Nat} {p : Player} (h : l[i]? = some p) (hj : p.jobs ≠ []) : ¬ idle l = true := by
  intro e
  unfold idle at e
  rw [List.all_eq_true] at e
  have := e p (List.mem_of_getElem? h)
  cases q : p.jobs with
  | nil => exact hj q
  | cons a b => rw [q] at this; cases this
theorem busy {l : List Player} (h : ¬ idle l = true) : ∃ (i : Nat) (p : Player) (j : Job) (r : List Job), l[i]? = some p ∧ p.jobs = j :: r := by
  refine Classical.byContradiction fun hn => h (idle_of fun i p hp => ?_)
  cases q : p.jobs with
  | nil => rfl
  | cons j r => exact (hn ⟨i, p, j, r, hp, q⟩).elim
theorem idle_iff (l : List Player) : idle l = true ↔ jobsIn l = 0 := by
  induction l with
  | nil => simp [idle, jobsIn, sumOf]
  | cons p l ih =>
    rw [jobsIn_cons]
    have : idle (p :: l) = (p.jobs.isEmpty && idle l) := rfl
    rw [this, Bool.and_eq_true, ih, List.isEmpty_iff, ← List.length_eq_zero_iff]
    omega
/-- what a tick keeps -/
structure TOk (q : Nat) (s : Turns) : Prop where
  q : 100 ≤ q
  at_ : s.at_ < s.players.length
  w : ∀ p ∈ s.players, 1 ≤ p.weight
  c : ∀ p ∈ s.players, ∀ j ∈ p.jobs, j.cost ≤ 10000
def dist (n i at_ : Nat) (begun : Bool) : Nat := if at_ = i then (if begun = true then n else 0) else if at_ < i then i - at_ else n - at_ + i
def part (n i at_ : Nat) (begun : Bool) (saved cost : Nat) : Nat :=
  if at_ = i ∧ begun = true ∧ cost ≤ saved then 0 else ((cost - saved + 99) / 100 + 1) * (2 * n) + 2 * dist n i at_ begun - (if begun = true then 1 else 0)
theorem dist_le {n i a : Nat} {b : Bool} (hi : i < n) (ha : a < n) : dist n i a b ≤ n := by
  unfold dist
  split
  · split <;> omega
  · split <;> omega
theorem part_le {n i a : Nat} {b : Bool} {sv c : Nat} (hi : i < n) (ha : a < n) (hc : c ≤ 10000) : part n i a b sv c ≤ 204 * n := by
  unfold part
  split
  · omega
  · have h1 := dist_le (b := b) hi ha
    have h2 : (c - sv + 99) / 100 + 1 ≤ 101 := by omega
    have h3 := Nat.mul_le_mul_right (2 * n) h2
    omega
theorem passed_at (s : Turns) : (passed s).at_ = if s.players.length ≤ s.at_ + 1 then 0 else s.at_ + 1 := rfl
def deep (n sv c : Nat) : Nat := ((c - sv + 99) / 100 + 1) * (2 * n)
theorem deep_pos {n sv c : Nat} (h : 0 < n) : 0 < deep n sv c := Nat.mul_pos (by omega) (by omega)
theorem part_f (n i a sv c : Nat) : part n i a false sv c = deep n sv c + 2 * dist n i a false := by
  unfold part
  rw [if_neg (by simp), if_neg (by simp)]
  rfl
theorem part_t {n i a sv c : Nat} (h : ¬ (a = i ∧ c ≤ sv)) : part n i a true sv c = deep n sv c + 2 * dist n i a true - 1 := by
  unfold part
  rw [if_neg (fun q => h ⟨q.1, q.2.2⟩), if_pos rfl]
  rfl
theorem part_t0 {n a sv c : Nat} (h : c ≤ sv) : part n a a true sv c = 0 := by
  unfold part
  rw [if_pos ⟨rfl, rfl, h⟩]
theorem dist_ne {n i a : Nat} {b : Bool} (h : a ≠ i) : dist n i a b = if a < i then i - a else n - a + i := by
  unfold dist
  rw [if_neg h]
theorem dist_self (n a : Nat) (b : Bool) : dist n a a b = if b = true then n else 0 := by
  unfold dist
  rw [if_pos rfl]
theorem dist_next {n i a : Nat} {b : Bool} (hi : i < n) (ha : a < n) (hne : a ≠ i) : dist n i (if n ≤ a + 1 then 0 else a + 1) false + 1 = dist n i a b := by
  rw [dist_ne hne]
  by_cases h1 : n ≤ a + 1
  · rw [if_pos h1]
    by_cases h2 : 0 = i
    · subst h2; rw [dist_self, if_neg (by simp), if_neg (by omega)]; omega
    · rw [dist_ne h2, if_pos (by omega), if_neg (by omega)]; omega
  · rw [if_neg h1]
    by_cases h2 : a + 1 = i
    · subst h2; rw [dist_self, if_neg (by simp), if_pos (by omega)]; omega
    · rw [dist_ne h2]
      by_cases h3 : a < i
      · rw [if_pos (show a + 1 < i by omega), if_pos h3]; omega
      · rw [if_neg (show ¬ a + 1 < i by omega), if_neg h3]; omega
theorem dist_next_self {n a : Nat} (ha : a < n) : dist n a (if n ≤ a + 1 then 0 else a + 1) false + 1 = n := by
  by_cases h1 : n ≤ a + 1
  · rw [if_pos h1]
    by_cases h2 : 0 = a
    · subst h2; rw [dist_self, if_neg (by simp)]; omega
    · rw [dist_ne h2, if_pos (by omega)]; omega
  · rw [if_neg h1, dist_ne (by omega), if_neg (by omega)]; omega
/-- the turn passes on from a player other than i -/
theorem part_pass {n i a : Nat} {b : Bool} {sv c : Nat} (hi : i < n) (ha : a < n) (hne : a ≠ i) : part n i (if n ≤ a + 1 then 0 else a + 1) false sv c < part n i a b sv c := by
  have h0 := deep_pos (n := n) (sv := sv) (c := c) (by omega)
  have h1 := dist_next (b := b) hi ha hne
  rw [part_f]
  cases b with
  | false => rw [part_f]; omega
  | true => rw [part_t (fun q => hne q.1)]; omega
/-- .. from i, whose savings don't reach -/
theorem part_pass_self {n a : Nat} {sv c : Nat} (ha : a < n) (hc : sv < c) : part n a (if n ≤ a + 1 then 0 else a + 1) false sv c < part n a a true sv c := by
  have h0 := deep_pos (n := n) (sv := sv) (c := c) (by omega)
  have h1 := dist_next_self ha
  rw [part_f, part_t (by omega), dist_self, if_pos rfl]
  omega
theorem part_begin {n i a : Nat} {sv c : Nat} (hi : i < n) (ha : a < n) (hne : a ≠ i) : part n i a true sv c < part n i a false sv c := by
  have h0 := deep_pos (n := n) (sv := sv) (c := c) (by omega)
  rw [part_f, part_t (fun q => hne q.1), dist_ne hne, dist_ne hne]
  omega
theorem part_begin_self {n a : Nat} {sv c g : Nat} (ha : a < n) (hg : 100 ≤ g) : part n a a true (sv + g) c < part n a a false sv c := by
  have h0 := deep_pos (n := n) (sv := sv) (c := c) (by omega)
  rw [part_f]
  by_cases h : c ≤ sv + g
  · rw [part_t0 h]
    omega
  · rw [part_t (fun q => h q.2), dist_self, dist_self, if_pos rfl, if_neg (by simp)]
    have h1 : (c - (sv + g) + 99) / 100 + 1 ≤ (c - sv + 99) / 100 := by omega
    have h2 : deep n (sv + g) c ≤ (c - sv + 99) / 100 * (2 * n) := Nat.mul_le_mul_right (2 * n) h1
    have h3 : deep n sv c = (c - sv + 99) / 100 * (2 * n) + 2 * n := Nat.succ_mul _ _
    omega
theorem passed_ok {q : Nat} {s : Turns} (h : TOk q s) : TOk q (passed s) := by
  refine ⟨h.q, ?_, h.w, h.c⟩
  rw [passed_at]
  show _ < s.players.length
  have := h.at_
  split <;> omega
theorem mem_set_of {α : Type} {l : List α} {i : Nat} {a b : α} (h : b ∈ l.set i a) : b = a ∨ b ∈ l := by
  rcases List.mem_or_eq_of_mem_set h with h | h
  · exact .inr h
  · exact .inl h
theorem set_ok {q : Nat} {s : Turns} {p : Player} {bg : Bool} {lf : Nat} {dr : List (Nat × Nat)} {dn : List Done} (h : TOk q s) (hw : 1 ≤ p.weight) (hc : ∀ j ∈ p.jobs, j.cost ≤ 10000) : TOk q { s with players := s.players.set s.at_ p, begun := bg, left := lf, draws := dr, done := dn } := by
  refine ⟨h.q, ?_, ?_, ?_⟩
  · show s.at_ < (s.players.set s.at_ p).length
    rw [List.length_set]; exact h.at_
  · intro x hx
    rcases mem_set_of hx with rfl | hx
    · exact hw
    · exact h.w x hx
  · intro x hx
    rcases mem_set_of hx with rfl | hx
    · exact hc
    · exact h.c x hx
theorem step1_ok {seed tick q : Nat} {s t : Turns} (h : TOk q s) (e : step1 seed tick q s = .on t) : TOk q t := by
  unfold step1 at e
  split at e
  · cases e
  · split at e
    · cases e
    · rename_i p hp
      have hm := List.mem_of_getElem? hp
      split at e
      · rename_i hj
        injection e with e
        subst e
        exact passed_ok (set_ok (bg := s.begun) (lf := s.left) (dr := s.draws) (dn := s.done) h (h.w p hm) (fun j hj => h.c p hm j hj))
      · rename_i j r hj
        split at e
        · injection e with e
          subst e
          exact set_ok h (h.w p hm) (fun j hj => h.c p hm j hj)
        · split at e
          · injection e with e
            subst e
            exact passed_ok h
          · split at e
            · cases e
            · injection e with e
              subst e
              exact set_ok h (h.w p hm) (fun x hx => h.c p hm x (by rw [hj]; exact List.mem_cons_of_mem _ hx))
theorem run_fuel (seed tick q : Nat) : ∀ (f : Nat) (s : Turns) (i : Nat) (p : Player) (j : Job) (r : List Job), TOk q s → s.players[i]? = some p → p.jobs = j :: r →
    jobsIn s.players * (204 * (s.players.length + 1)) + part s.players.length i s.at_ s.begun p.saved j.cost < f → ∃ t, run seed tick q f s = some t
  | 0, _, _, _, _, _, _, _, _, h => by omega
  | f + 1, s, i, p, j, r, ok, hi, hj, h => by
    have hil : i < s.players.length := (List.getElem?_eq_some_iff.mp hi).1
    have ni : ¬ idle s.players = true := not_idle hi (by rw [hj]; exact List.cons_ne_nil _ _)
    have hal := ok.at_
    obtain ⟨pa, hpa⟩ : ∃ pa, s.players[s.at_]? = some pa := ⟨_, List.getElem?_eq_getElem hal⟩
    have hma := List.mem_of_getElem? hpa
    show ∃ t, (match step1 seed tick q s with | .over => some s | .on t => run seed tick q f t) = some t
    cases e : step1 seed tick q s with
    | over => exact ⟨s, rfl⟩
    | on t =>
      show ∃ t', run seed tick q f t = some t'
      have ok' := step1_ok ok e
      unfold step1 at e
      rw [if_neg ni, hpa] at e
      dsimp only at e
      cases hja : pa.jobs with
      | nil =>
        rw [hja] at e
        dsimp only at e
        injection e with e
        have hne : s.at_ ≠ i := fun q => by
          rw [q, hi] at hpa
          cases hpa
          rw [hj] at hja; cases hja
        have e1 : t.players = s.players.set s.at_ { pa with jobs := [], saved := 0 } := by rw [← e]; rfl
        have e2 : t.at_ = if s.players.length ≤ s.at_ + 1 then 0 else s.at_ + 1 := by
          rw [← e, passed_at]; show (if (s.players.set s.at_ _).length ≤ _ then _ else _) = _; rw [List.length_set]
        have e3 : t.begun = false := by rw [← e]; rfl
        have hl : t.players.length = s.players.length := by rw [e1, List.length_set]
        refine run_fuel seed tick q f t i p j r ok' (by rw [e1, List.getElem?_set_ne hne]; exact hi) hj ?_
        have hjn : jobsIn t.players = jobsIn s.players := by
          have := jobsIn_set (p := pa) { pa with jobs := [], saved := 0 } hpa
          rw [hja] at this
          rw [e1]; simpa using this
        rw [hl, hjn, e2, e3]
        have := part_pass (b := s.begun) (sv := p.saved) (c := j.cost) hil hal hne
        omega
      | cons ja ra =>
        rw [hja] at e
        dsimp only at e
        by_cases hb : s.begun = false
        · rw [if_pos hb] at e
          injection e with e
          have e1 : t.players = s.players.set s.at_ { pa with jobs := ja :: ra, saved := pa.saved + pa.weight * q } := by rw [← e]
          have e2 : t.at_ = s.at_ := by rw [← e]
          have e3 : t.begun = true := by rw [← e]
          have hl : t.players.length = s.players.length := by rw [e1, List.length_set]
          have hjn : jobsIn t.players = jobsIn s.players := by
            have := jobsIn_set (p := pa) { pa with jobs := ja :: ra, saved := pa.saved + pa.weight * q } hpa
            rw [hja] at this
            rw [e1]; simpa using this
          by_cases hne : s.at_ = i
          · have epa : pa = p := by rw [hne, hi] at hpa; exact (Option.some.inj hpa).symm
            subst epa
            have ej : ja = j ∧ ra = r := by rw [hj] at hja; injection hja with a b; exact ⟨a.symm, b.symm⟩
            obtain ⟨rfl, rfl⟩ := ej
            refine run_fuel seed tick q f t i { pa with jobs := ja :: ra, saved := pa.saved + pa.weight * q } ja ra ok' (by rw [e1, hne, List.getElem?_set_self hil]) rfl ?_
            rw [hl, hjn, e2, e3]
            have hg : 100 ≤ pa.weight * q := Nat.le_trans ok.q (Nat.le_mul_of_pos_left q (ok.w pa hma))
            have := part_begin_self (sv := pa.saved) (c := ja.cost) hil hg
            rw [hb] at h
            rw [hne] at h ⊢
            show _ * _ + part _ _ _ _ (pa.saved + pa.weight * q) _ < _
            omega
          · refine run_fuel seed tick q f t i p j r ok' (by rw [e1, List.getElem?_set_ne hne]; exact hi) hj ?_
            rw [hl, hjn, e2, e3]
            have := part_begin (sv := p.saved) (c := j.cost) hil hal hne
            rw [hb] at h
            omega
        · rw [if_neg hb] at e
          have hb' : s.begun = true := by simpa using hb
          by_cases hs : pa.saved < ja.cost
          · rw [if_pos hs] at e
            injection e with e
            have e1 : t.players = s.players := by rw [← e]; rfl
            have e2 : t.at_ = if s.players.length ≤ s.at_ + 1 then 0 else s.at_ + 1 := by rw [← e]; rfl
            have e3 : t.begun = false := by rw [← e]; rfl
            refine run_fuel seed tick q f t i p j r ok' (by rw [e1]; exact hi) hj ?_
            rw [e1, e2, e3]
            by_cases hne : s.at_ = i
            · have epa : pa = p := by rw [hne, hi] at hpa; exact (Option.some.inj hpa).symm
              subst epa
              have ej : ja = j ∧ ra = r := by rw [hj] at hja; injection hja with a b; exact ⟨a.symm, b.symm⟩
              obtain ⟨rfl, rfl⟩ := ej
              have := part_pass_self hil hs
              rw [hb'] at h
              rw [hne] at h ⊢
              omega
            · have := part_pass (b := s.begun) (sv := p.saved) (c := j.cost) hil hal hne
              omega
          · rw [if_neg hs] at e
            by_cases hlf : s.left < ja.cost
            · rw [if_pos hlf] at e; cases e
            · rw [if_neg hlf] at e
              injection e with e
              have e1 : ∃ q : Player, q.jobs = ra ∧ t.players = s.players.set s.at_ q := by rw [← e]; exact ⟨_, rfl, rfl⟩
              obtain ⟨pq, hq, e1⟩ := e1
              have hl : t.players.length = s.players.length := by rw [e1, List.length_set]
              have hjn : jobsIn t.players + 1 = jobsIn s.players := by
                have := jobsIn_set (p := pa) pq hpa
                rw [hja, hq, List.length_cons] at this
                rw [e1]; omega
              have hmul : jobsIn s.players * (204 * (s.players.length + 1)) = jobsIn t.players * (204 * (s.players.length + 1)) + 204 * (s.players.length + 1) := by
                rw [← hjn, Nat.succ_mul]
              by_cases hid : idle t.players = true
              · obtain ⟨g, rfl⟩ : ∃ g, f = g + 1 := ⟨f - 1, by omega⟩
                refine ⟨t, ?_⟩
                show (match step1 seed tick q t with | .over => some t | .on u => run seed tick q g u) = some t
                have : step1 seed tick q t = .over := by unfold step1; rw [if_pos hid]
                rw [this]
              · obtain ⟨i', p', j', r', hi', hj'⟩ := busy hid
                refine run_fuel seed tick q f t i' p' j' r' ok' hi' hj' ?_
                have hi2 : i' < t.players.length := (List.getElem?_eq_some_iff.mp hi').1
                have := part_le (b := t.begun) (sv := p'.saved) hi2 ok'.at_ (ok'.c p' (List.mem_of_getElem? hi') j' (by rw [hj']; exact List.mem_cons_self))
                rw [hl] at this ⊢
                omega
/-- from a state in order the steps are enough -/
theorem run_enough (seed tick q : Nat) (s : Turns) (h : (100 ≤ q ∧ (∀ p ∈ s.players, 1 ≤ p.weight) ∧ ∀ p ∈ s.players, ∀ j ∈ p.jobs, j.cost ≤ 10000)) (ha : s.players ≠ [] → s.at_ < s.players.length) : ∃ t, run seed tick q (enough s.players) s = some t := by
  by_cases hid : idle s.players = true
  · refine ⟨s, ?_⟩
    show (match step1 seed tick q s with | .over => some s | .on u => _) = some s
    have : step1 seed tick q s = .over := by unfold step1; rw [if_pos hid]
    rw [this]
  · obtain ⟨i, p, j, r, hi, hj⟩ := busy hid
    have hil := (List.getElem?_eq_some_iff.mp hi).1
    have hal := ha (fun q => by rw [q] at hil; cases hil)
    refine run_fuel seed tick q _ s i p j r ⟨h.1, hal, h.2.1, h.2.2⟩ hi hj ?_
    have := part_le (b := s.begun) (sv := p.saved) hil hal (h.2.2 p (List.mem_of_getElem? hi) j (by rw [hj]; exact List.mem_cons_self))
    have e : enough s.players = (jobsIn s.players + 1) * (204 * (s.players.length + 1)) + 2 := by
      show (jobsIn s.players + 1) * (2 * (s.players.length + 1) * 102) + 2 = _
      rw [show 2 * (s.players.length + 1) * 102 = 204 * (s.players.length + 1) by omega]
    have e2 : (jobsIn s.players + 1) * (204 * (s.players.length + 1)) = jobsIn s.players * (204 * (s.players.length + 1)) + 204 * (s.players.length + 1) := Nat.succ_mul _ _
    omega
end TS
end
section
set_option Elab.async false
namespace TS
open Vbwsak
/-! ### what holds of the players between two calls -/
structure PW (ps : List Player) (next : Nat) : Prop where
  nums : ∀ (i k : Nat) (p q : Player), ps[i]? = some p → ps[k]? = some q → p.num = q.num → i = k
  w : ∀ (i : Nat) (p : Player), ps[i]? = some p → 1 ≤ p.weight ∧ p.weight ≤ 100
  jobs : ∀ (i : Nat) (p : Player), ps[i]? = some p → ∀ j ∈ p.jobs, 1 ≤ j.cost ∧ j.cost ≤ 10000 ∧ 1 ≤ j.sides ∧ j.num < next
  nd : ∀ (i : Nat) (p : Player), ps[i]? = some p → (p.jobs.map (·.num)).Nodup
  apart : ∀ (i k : Nat) (p q : Player), ps[i]? = some p → ps[k]? = some q → i ≠ k → ∀ a ∈ p.jobs, ∀ b ∈ q.jobs, a.num ≠ b.num
  sv : ∀ (i : Nat) (p : Player), ps[i]? = some p → p.jobs = [] → p.saved = 0
theorem at_set {α : Type} {l : List α} {i j : Nat} {a x : α} (h : (l.set i a)[j]? = some x) : (j = i ∧ x = a) ∨ (j ≠ i ∧ l[j]? = some x) := by
  by_cases e : j = i
  · subst e
    have h1 : j < l.length := by have := (List.getElem?_eq_some_iff.mp h).1; rwa [List.length_set] at this
    rw [List.getElem?_set_self h1] at h
    exact .inl ⟨rfl, (Option.some.inj h).symm⟩
  · rw [List.getElem?_set_ne (fun q => e q.symm)] at h
    exact .inr ⟨e, h⟩
theorem PW.mono {ps : List Player} {n n' : Nat} (h : PW ps n) (hn : n ≤ n') : PW ps n' :=
  ⟨h.nums, h.w, fun i p hp j hj => let ⟨a, b, c, d⟩ := h.jobs i p hp j hj; ⟨a, b, c, Nat.lt_of_lt_of_le d hn⟩, h.nd, h.apart, h.sv⟩
theorem PW.nil (n : Nat) : PW [] n := ⟨fun i k p q h => by simp at h, fun i p h => by simp at h, fun i p h => by simp at h, fun i p h => by simp at h, fun i k p q h => by simp at h, fun i p h => by simp at h⟩
/-- a player keeps the number; the jobs are some of those that were -/
theorem PW.set {ps : List Player} {n i : Nat} {x p' : Player} (h : PW ps n) (hx : ps[i]? = some x) (hn : p'.num = x.num) (hw : 1 ≤ p'.weight ∧ p'.weight ≤ 100) (hj : p'.jobs.Sublist x.jobs) (hs : p'.jobs = [] → p'.saved = 0) : PW (ps.set i p') n := by
  refine ⟨fun a b p q ha hb e => ?_, fun a p ha => ?_, fun a p ha => ?_, fun a p ha => ?_, fun a b p q ha hb hab => ?_, fun a p ha => ?_⟩
  · rcases at_set ha with ⟨rfl, rfl⟩ | ⟨na, ha'⟩
    · rcases at_set hb with ⟨rfl, rfl⟩ | ⟨nb, hb'⟩
      · rfl
      · exact h.nums _ _ x q hx hb' (by rw [← hn]; exact e)
    · rcases at_set hb with ⟨rfl, rfl⟩ | ⟨nb, hb'⟩
      · exact h.nums _ _ p x ha' hx (by rw [← hn]; exact e)
      · exact h.nums _ _ p q ha' hb' e
  · rcases at_set ha with ⟨rfl, rfl⟩ | ⟨na, ha'⟩
    · exact hw
    · exact h.w a p ha'
  · rcases at_set ha with ⟨rfl, rfl⟩ | ⟨na, ha'⟩
    · exact fun j hj' => h.jobs a x hx j (hj.subset hj')
    · exact h.jobs a p ha'
  · rcases at_set ha with ⟨rfl, rfl⟩ | ⟨na, ha'⟩
    · exact (h.nd a x hx).sublist (hj.map _)
    · exact h.nd a p ha'
  · rcases at_set ha with ⟨rfl, rfl⟩ | ⟨na, ha'⟩
    · rcases at_set hb with ⟨rfl, rfl⟩ | ⟨nb, hb'⟩
      · exact (hab rfl).elim
      · exact fun u hu v hv => h.apart _ _ x q hx hb' hab u (hj.subset hu) v hv
    · rcases at_set hb with ⟨rfl, rfl⟩ | ⟨nb, hb'⟩
      · exact fun u hu v hv => h.apart _ _ p x ha' hx hab u hu v (hj.subset hv)
      · exact h.apart _ _ p q ha' hb' hab
  · rcases at_set ha with ⟨rfl, rfl⟩ | ⟨na, ha'⟩
    · exact hs
    · exact h.sv a p ha'
/-- a job more -/
theorem PW.add {ps : List Player} {n i : Nat} {x : Player} {j : Job} (h : PW ps n) (hx : ps[i]? = some x) (hn : j.num = n) (hc : 1 ≤ j.cost ∧ j.cost ≤ 10000 ∧ 1 ≤ j.sides) : PW (ps.set i { x with jobs := x.jobs ++ [j] }) (n + 1) := by
  have key : ∀ (a : Nat) (p : Player), ps[a]? = some p → ∀ u ∈ p.jobs, u.num ≠ j.num := fun a p ha' u hu e => by
    have := (h.jobs a p ha' u hu).2.2.2
    omega
  refine ⟨fun a b p q ha hb e => ?_, fun a p ha => ?_, fun a p ha => ?_, fun a p ha => ?_, fun a b p q ha hb hab => ?_, fun a p ha => ?_⟩
  · rcases at_set ha with ⟨rfl, rfl⟩ | ⟨na, ha'⟩
    · rcases at_set hb with ⟨rfl, rfl⟩ | ⟨nb, hb'⟩
      · rfl
      · exact h.nums _ _ x q hx hb' e
    · rcases at_set hb with ⟨rfl, rfl⟩ | ⟨nb, hb'⟩
      · exact h.nums _ _ p x ha' hx e
      · exact h.nums _ _ p q ha' hb' e
  · rcases at_set ha with ⟨rfl, rfl⟩ | ⟨na, ha'⟩
    · exact h.w a x hx
    · exact h.w a p ha'
  · rcases at_set ha with ⟨rfl, rfl⟩ | ⟨na, ha'⟩
    · intro u hu
      rcases List.mem_append.mp hu with hu | hu
      · obtain ⟨c1, c2, c3, c4⟩ := h.jobs a x hx u hu
        exact ⟨c1, c2, c3, by omega⟩
      · rw [List.mem_singleton] at hu
        subst hu
        exact ⟨hc.1, hc.2.1, hc.2.2, by omega⟩
    · intro u hu
      obtain ⟨c1, c2, c3, c4⟩ := h.jobs a p ha' u hu
      exact ⟨c1, c2, c3, by omega⟩
  · rcases at_set ha with ⟨rfl, rfl⟩ | ⟨na, ha'⟩
    · show ((x.jobs ++ [j]).map (·.num)).Nodup
      rw [List.map_append, List.nodup_append]
      refine ⟨h.nd a x hx, by simp, fun u hu v hv => ?_⟩
      obtain ⟨y, hy, rfl⟩ := List.mem_map.mp hu
      rw [List.map_singleton, List.mem_singleton] at hv
      subst hv
      exact key a x hx y hy
    · exact h.nd a p ha'
  · rcases at_set ha with ⟨rfl, rfl⟩ | ⟨na, ha'⟩
    · rcases at_set hb with ⟨rfl, rfl⟩ | ⟨nb, hb'⟩
      · exact (hab rfl).elim
      · intro u hu v hv
        rcases List.mem_append.mp hu with hu | hu
        · exact h.apart _ _ x q hx hb' hab u hu v hv
        · rw [List.mem_singleton] at hu
          subst hu
          exact fun e => key _ q hb' v hv e.symm
    · rcases at_set hb with ⟨rfl, rfl⟩ | ⟨nb, hb'⟩
      · intro u hu v hv
        rcases List.mem_append.mp hv with hv | hv
        · exact h.apart _ _ p x ha' hx hab u hu v hv
        · rw [List.mem_singleton] at hv
          subst hv
          exact key _ p ha' u hu
      · exact h.apart _ _ p q ha' hb' hab
  · rcases at_set ha with ⟨rfl, rfl⟩ | ⟨na, ha'⟩
    · intro e
      exact absurd e (by simp)
    · exact h.sv a p ha'
/-- a player more -/
theorem PW.join {ps : List Player} {n : Nat} {x : Player} (h : PW ps n) (hn : ∀ (i : Nat) (p : Player), ps[i]? = some p → p.num ≠ x.num) (hw : 1 ≤ x.weight ∧ x.weight ≤ 100) (hj : x.jobs = []) (hs : x.saved = 0) : PW (ps ++ [x]) n := by
  have key : ∀ {i : Nat} {p : Player}, (ps ++ [x])[i]? = some p → ps[i]? = some p ∨ (i = ps.length ∧ p = x) := fun {i p} e => by
    by_cases hi : i < ps.length
    · rw [List.getElem?_append_left hi] at e
      exact .inl e
    · rw [List.getElem?_append_right (by omega)] at e
      have h1 := (List.getElem?_eq_some_iff.mp e).1
      have h2 : i - ps.length = 0 := by simp at h1; omega
      rw [h2] at e
      exact .inr ⟨by omega, (Option.some.inj e).symm⟩
  refine ⟨fun a b p q ha hb e => ?_, fun a p ha => ?_, fun a p ha => ?_, fun a p ha => ?_, fun a b p q ha hb hab => ?_, fun a p ha => ?_⟩
  · rcases key ha with ha' | ⟨ea, rfl⟩
    · rcases key hb with hb' | ⟨eb, rfl⟩
      · exact h.nums _ _ p q ha' hb' e
      · exact (hn a p ha' e).elim
    · rcases key hb with hb' | ⟨eb, rfl⟩
      · exact (hn b q hb' e.symm).elim
      · omega
  · rcases key ha with ha' | ⟨ea, rfl⟩
    · exact h.w a p ha'
    · exact hw
  · rcases key ha with ha' | ⟨ea, rfl⟩
    · exact h.jobs a p ha'
    · rw [hj]; intro j hj; cases hj
  · rcases key ha with ha' | ⟨ea, rfl⟩
    · exact h.nd a p ha'
    · rw [hj]; exact List.nodup_nil
  · rcases key ha with ha' | ⟨ea, rfl⟩
    · rcases key hb with hb' | ⟨eb, rfl⟩
      · exact h.apart _ _ p q ha' hb' hab
      · rw [hj]; intro u _ v hv; cases hv
    · rw [hj]; intro u hu; cases hu
  · rcases key ha with ha' | ⟨ea, rfl⟩
    · exact h.sv a p ha'
    · exact fun _ => hs
/-- a player less -/
theorem PW.erase {ps : List Player} {n : Nat} (h : PW ps n) (i : Nat) : PW (ps.eraseIdx i) n := by
  have key : ∀ {a : Nat} {p : Player}, (ps.eraseIdx i)[a]? = some p → ps[if a < i then a else a + 1]? = some p := fun {a p} e => by
    rw [List.getElem?_eraseIdx] at e
    split at e
    · rename_i q; rw [if_pos q]; exact e
    · rename_i q; rw [if_neg q]; exact e
  refine ⟨fun a b p q ha hb e => ?_, fun a p ha => h.w _ p (key ha), fun a p ha => h.jobs _ p (key ha), fun a p ha => h.nd _ p (key ha), fun a b p q ha hb hab => h.apart _ _ p q (key ha) (key hb) ?_, fun a p ha => h.sv _ p (key ha)⟩
  · have := h.nums _ _ p q (key ha) (key hb) e
    split at this <;> split at this <;> omega
  · split <;> split <;> omega
/-- what holds of the state between two calls -/
structure WF (s : State) : Prop where
  pw : PW s.players s.next
  q : 100 ≤ s.quantum ∧ s.quantum ≤ 10000
  b : 20000 ≤ s.budget ∧ s.budget ≤ 1000000
  n8 : s.players.length ≤ 8
  at_ : s.at_ < s.players.length ∨ s.at_ = 0
  j64 : jobsIn s.players ≤ 64
theorem WF.at_lt {s : State} (h : WF s) (hn : s.players ≠ []) : s.at_ < s.players.length := by
  rcases h.at_ with e | e
  · exact e
  · rw [e]; exact List.length_pos_iff.mpr hn
theorem wf_start : WF start := ⟨PW.nil _, ⟨by decide, by decide⟩, ⟨by decide, by decide⟩, by decide, .inr rfl, by decide⟩
/-! ### one step of a tick -/
theorem step1_pw {seed tick q n : Nat} {s t : Turns} (h : PW s.players n) (e : step1 seed tick q s = .on t) :
    PW t.players n ∧ t.players.length = s.players.length ∧ t.done.length + jobsIn t.players = s.done.length + jobsIn s.players ∧ (s.at_ < s.players.length → t.at_ < t.players.length) := by
  unfold step1 at e
  split at e
  · cases e
  · split at e
    · cases e
    · rename_i p hp
      have hl := (List.getElem?_eq_some_iff.mp hp).1
      split at e
      · rename_i hj
        injection e with e
        subst e
        refine ⟨h.set hp rfl (h.w _ p hp) (List.Sublist.refl _) (fun _ => rfl), List.length_set, ?_, fun _ => ?_⟩
        · have := jobsIn_set (p := p) { p with saved := 0 } hp
          show s.done.length + jobsIn (s.players.set s.at_ { p with saved := 0 }) = _
          have e2 : ({ p with saved := 0 } : Player).jobs.length = p.jobs.length := rfl
          omega
        · show (if (s.players.set s.at_ { p with saved := 0 }).length ≤ s.at_ + 1 then 0 else s.at_ + 1) < (s.players.set s.at_ { p with saved := 0 }).length
          rw [List.length_set]
          split <;> omega
      · rename_i j r hj
        split at e
        · injection e with e
          subst e
          refine ⟨h.set hp rfl (h.w _ p hp) (List.Sublist.refl _) (fun z => by rw [hj] at z; cases z), List.length_set, ?_, fun _ => ?_⟩
          · have := jobsIn_set (p := p) { p with saved := p.saved + p.weight * q } hp
            show s.done.length + jobsIn (s.players.set s.at_ { p with saved := p.saved + p.weight * q }) = _
            have e2 : ({ p with saved := p.saved + p.weight * q } : Player).jobs.length = p.jobs.length := rfl
            omega
          · show s.at_ < (s.players.set s.at_ _).length
            rw [List.length_set]; exact hl
        · split at e
          · injection e with e
            subst e
            refine ⟨h, rfl, rfl, fun _ => ?_⟩
            show (if s.players.length ≤ s.at_ + 1 then 0 else s.at_ + 1) < s.players.length
            split <;> omega
          · split at e
            · cases e
            · injection e with e
              subst e
              refine ⟨h.set hp rfl (h.w _ p hp) (by show r.Sublist p.jobs; rw [hj]; exact List.sublist_cons_self _ _) (fun z => ?_), List.length_set, ?_, fun _ => ?_⟩
              · have z' : r = [] := z
                show (if r.isEmpty = true then 0 else p.saved - j.cost) = 0
                rw [z']; rfl
              · show (s.done ++ [_]).length + jobsIn (s.players.set s.at_ _) = _
                rw [List.length_append]
                have := jobsIn_set (p := p) { p with jobs := r, saved := if r.isEmpty = true then 0 else p.saved - j.cost, served := p.served + j.cost } hp
                have e2 : ({ p with jobs := r, saved := if r.isEmpty = true then 0 else p.saved - j.cost, served := p.served + j.cost } : Player).jobs.length = r.length := rfl
                have e3 : p.jobs.length = r.length + 1 := by rw [hj]; rfl
                rw [e2, e3] at this
                simp only [List.length_singleton]
                omega
              · show s.at_ < (s.players.set s.at_ _).length
                rw [List.length_set]; exact hl
theorem run_pw {seed tick q n : Nat} : ∀ (f : Nat) (s t : Turns), PW s.players n → run seed tick q f s = some t →
    PW t.players n ∧ t.players.length = s.players.length ∧ t.done.length + jobsIn t.players = s.done.length + jobsIn s.players ∧ (s.at_ < s.players.length → t.at_ < t.players.length)
  | 0, s, t, _, e => by cases e
  | f + 1, s, t, h, e => by
    have e : (match step1 seed tick q s with | .over => some s | .on u => run seed tick q f u) = some t := e
    cases e1 : step1 seed tick q s with
    | over =>
      rw [e1] at e
      cases e
      exact ⟨h, rfl, rfl, fun z => z⟩
    | on u =>
      rw [e1] at e
      obtain ⟨a1, a2, a3, a4⟩ := step1_pw h e1
      obtain ⟨b1, b2, b3, b4⟩ := run_pw f u t a1 e
      exact ⟨b1, b2.trans a2, b3.trans a3, fun z => b4 (a4 z)⟩
/-- a tick: its steps are enough -/
theorem ticked_some {s : State} (h : WF s) : ∃ t, run s.seed (s.tick + 1) s.quantum (enough s.players) (turnsOf s) = some t := by
  refine run_enough _ _ _ (turnsOf s) ⟨h.q.1, fun p hp => ?_, fun p hp j hj => ?_⟩ fun hn => h.at_lt hn
  · obtain ⟨i, hi⟩ := List.getElem?_of_mem hp
    exact (h.pw.w i p hi).1
  · obtain ⟨i, hi⟩ := List.getElem?_of_mem hp
    exact (h.pw.jobs i p hi j hj).2.1
theorem ticked_of {s : State} {t : Turns} (e : run s.seed (s.tick + 1) s.quantum (enough s.players) (turnsOf s) = some t) :
    ticked s = ({ s with players := t.players, at_ := t.at_, begun := t.begun, tick := s.tick + 1, spent := s.budget - t.left }, t.done) := by
  unfold ticked
  rw [e]
theorem WF.ticked {s : State} (h : WF s) : WF (ticked s).1 ∧ (ticked s).2.length + jobsIn (ticked s).1.players = jobsIn s.players ∧ (ticked s).1.tick = s.tick + 1 := by
  obtain ⟨t, e⟩ := ticked_some h
  obtain ⟨a1, a2, a3, a4⟩ := run_pw _ _ _ h.pw e
  rw [ticked_of e]
  have a3' : t.done.length + jobsIn t.players = jobsIn s.players := by
    have : (turnsOf s).done.length = 0 := rfl
    have e2 : (turnsOf s).players = s.players := rfl
    rw [this, e2] at a3
    omega
  refine ⟨⟨a1, h.q, h.b, by show t.players.length ≤ 8; rw [a2]; exact h.n8, ?_, ?_⟩, a3', rfl⟩
  · show t.at_ < t.players.length ∨ t.at_ = 0
    by_cases hn : s.players = []
    · right
      have hid : idle s.players = true := by rw [hn]; rfl
      have e2 : run s.seed (s.tick + 1) s.quantum (enough s.players) (turnsOf s) = some (turnsOf s) := by
        show (match step1 s.seed (s.tick + 1) s.quantum (turnsOf s) with | .over => some (turnsOf s) | .on u => _) = _
        have : step1 s.seed (s.tick + 1) s.quantum (turnsOf s) = .over := by unfold step1; rw [if_pos (show idle (turnsOf s).players = true from hid)]
        rw [this]
      rw [e2] at e
      cases e
      rcases h.at_ with z | z
      · rw [hn] at z; cases z
      · exact z
    · exact .inl (a4 (h.at_lt hn))
  · show jobsIn t.players ≤ 64
    have := h.j64
    omega
theorem WF.tickedBy : ∀ (n : Nat) {s : State}, WF s → WF (tickedBy n s).1 ∧ (tickedBy n s).2.length + jobsIn (tickedBy n s).1.players = jobsIn s.players ∧ (tickedBy n s).1.tick = s.tick + n
  | 0, s, h => ⟨h, by show 0 + jobsIn s.players = jobsIn s.players; omega, rfl⟩
  | n + 1, s, h => by
    obtain ⟨a1, a2, a3⟩ := h.ticked
    obtain ⟨b1, b2, b3⟩ := WF.tickedBy n a1
    refine ⟨b1, ?_, ?_⟩
    · show ((Vbwsak.ticked s).2 ++ (Vbwsak.tickedBy n (Vbwsak.ticked s).1).2).length + jobsIn (Vbwsak.tickedBy n (Vbwsak.ticked s).1).1.players = _
      rw [List.length_append]
      omega
    · show (Vbwsak.tickedBy n (Vbwsak.ticked s).1).1.tick = _
      omega
/-! ### a player by number -/
theorem find_cases (ps : List Player) (n : Int) : (ps.find? (fun p => (p.num : Int) == n) = none ∧ ∀ (i : Nat) (p : Player), ps[i]? = some p → ¬ (p.num : Int) = n) ∨
    ∃ (i : Nat) (x : Player), ps[i]? = some x ∧ (x.num : Int) = n ∧ ps.find? (fun p => (p.num : Int) == n) = some x ∧ ps.findIdx (fun p => (p.num : Int) == n) = i ∧ ∀ (k : Nat) (y : Player), k < i → ps[k]? = some y → ¬ (y.num : Int) = n := by
  induction ps with
  | nil => exact .inl ⟨rfl, fun i p h => by simp at h⟩
  | cons a l ih =>
    by_cases e : (a.num : Int) = n
    · refine .inr ⟨0, a, rfl, e, ?_, ?_, fun k y hk => by omega⟩
      · rw [List.find?_cons_of_pos (by simp [e])]
      · rw [List.findIdx_cons]; simp [e]
    · rcases ih with ⟨h1, h2⟩ | ⟨i, x, h1, h2, h3, h4, h5⟩
      · refine .inl ⟨?_, fun i p hp => ?_⟩
        · rw [List.find?_cons_of_neg (by simp [e])]; exact h1
        · cases i with
          | zero => have := Option.some.inj hp; subst this; exact e
          | succ i => exact h2 i p hp
      · refine .inr ⟨i + 1, x, h1, h2, ?_, ?_, fun k y hk hy => ?_⟩
        · rw [List.find?_cons_of_neg (by simp [e])]; exact h3
        · rw [List.findIdx_cons, h4]
          have : ((a.num : Int) == n) = false := by simp [e]
          rw [this]
          rfl
        · cases k with
          | zero => have := Option.some.inj hy; subst this; exact e
          | succ k => exact h5 k y (by omega) hy
theorem set_by_num {ps : List Player} {n i : Nat} {x p' : Player} (h : PW ps n) (hx : ps[i]? = some x) (hn : p'.num = x.num) : (ps.map fun q => if q.num = p'.num then p' else q) = ps.set i p' := by
  refine List.ext_getElem? fun k => ?_
  rw [List.getElem?_map]
  by_cases e : k = i
  · subst e
    rw [hx, List.getElem?_set_self (List.getElem?_eq_some_iff.mp hx).1]
    show some (if x.num = p'.num then p' else x) = _
    rw [if_pos hn.symm]
  · rw [List.getElem?_set_ne (fun q => e q.symm)]
    cases hk : ps[k]? with
    | none => rfl
    | some y =>
      show some (if y.num = p'.num then p' else y) = some y
      rw [if_neg fun z => e (h.nums k i y x hk hx (z.trans hn))]
theorem length_map_num {ps : List Player} {p' : Player} : (ps.map fun q => if q.num = p'.num then p' else q).length = ps.length := List.length_map _
/-! ### a job less -/
theorem filter_id {l : List Job} {n : Int} (h : ∀ j ∈ l, ¬ (j.num : Int) = n) : (l.filter fun x => (x.num : Int) != n) = l := by
  rw [List.filter_eq_self]
  intro j hj
  simp [h j hj]
theorem filter_erase : ∀ {l : List Job} {k : Nat} {j : Job}, (l.map (·.num)).Nodup → l[k]? = some j → (l.filter fun x => (x.num : Int) != (j.num : Int)) = l.eraseIdx k
  | [], _, _, _, h => by simp at h
  | a :: l, 0, j, nd, h => by
    have e := Option.some.inj h
    subst e
    obtain ⟨h1, h2⟩ := List.nodup_cons.mp (show (a.num :: l.map (·.num)).Nodup from nd)
    rw [List.filter_cons_of_neg (by simp), filter_id]
    · rfl
    · intro j hj e
      exact h1 (List.mem_map.mpr ⟨j, hj, by omega⟩)
  | a :: l, k + 1, j, nd, h => by
    obtain ⟨h1, h2⟩ := List.nodup_cons.mp (show (a.num :: l.map (·.num)).Nodup from nd)
    have hj : l[k]? = some j := h
    rw [List.filter_cons_of_pos, filter_erase h2 hj]
    · rfl
    · have : a.num ≠ j.num := fun e => h1 (by rw [e]; exact List.mem_map.mpr ⟨j, List.mem_of_getElem? hj, rfl⟩)
      simp
      omega
def dropped (p : Player) (k : Nat) : Player := { p with jobs := p.jobs.eraseIdx k, saved := if (p.jobs.eraseIdx k).isEmpty = true then 0 else p.saved }
theorem drop_set {ps : List Player} {n i k : Nat} {x : Player} {j : Job} (h : PW ps n) (hx : ps[i]? = some x) (hj : x.jobs[k]? = some j) :
    (ps.map fun p => ({ p with jobs := p.jobs.filter fun y => (y.num : Int) != (j.num : Int), saved := if (p.jobs.filter fun y => (y.num : Int) != (j.num : Int)).isEmpty = true then 0 else p.saved } : Player)) = ps.set i (dropped x k) := by
  refine List.ext_getElem? fun a => ?_
  rw [List.getElem?_map]
  by_cases e : a = i
  · subst e
    rw [hx, List.getElem?_set_self (List.getElem?_eq_some_iff.mp hx).1]
    dsimp only [Option.map_some]
    rw [filter_erase (h.nd a x hx) hj]
    rfl
  · rw [List.getElem?_set_ne (fun q => e q.symm)]
    cases hk : ps[a]? with
    | none => rfl
    | some y =>
      dsimp only [Option.map_some]
      rw [filter_id (l := y.jobs) (n := (j.num : Int)) fun u hu z => h.apart a i y x hk hx e u hu j (List.mem_of_getElem? hj) (by omega)]
      by_cases hy : y.jobs = []
      · have hs := h.sv a y hk hy
        rw [if_pos (by rw [hy]; rfl)]
        congr 1
        cases y
        simp only at hs
        subst hs
        rfl
      · rw [if_neg (by intro z; exact hy (List.isEmpty_iff.mp z))]
theorem dropped_pw {ps : List Player} {n i k : Nat} {x : Player} (h : PW ps n) (hx : ps[i]? = some x) : PW (ps.set i (dropped x k)) n := by
  refine h.set hx rfl (h.w i x hx) (List.eraseIdx_sublist _ _) fun z => ?_
  show (if (x.jobs.eraseIdx k).isEmpty = true then 0 else x.saved) = 0
  rw [if_pos (by rw [show x.jobs.eraseIdx k = [] from z]; rfl)]
/-- the job of that number, if there is one: whose it is and at which place -/
theorem job_cases (ps : List Player) (n : Int) : ((ps.any fun p => p.jobs.any fun x => (x.num : Int) == n) = false ∧ ∀ (i : Nat) (p : Player), ps[i]? = some p → ∀ j ∈ p.jobs, ¬ (j.num : Int) = n) ∨
    ∃ (i : Nat) (p : Player), ps[i]? = some p ∧ (∃ j ∈ p.jobs, (j.num : Int) = n) ∧ (ps.any fun p => p.jobs.any fun x => (x.num : Int) == n) = true ∧ ∀ (k : Nat) (y : Player), k < i → ps[k]? = some y → ∀ j ∈ y.jobs, ¬ (j.num : Int) = n := by
  induction ps with
  | nil => exact .inl ⟨rfl, fun i p h => by simp at h⟩
  | cons a l ih =>
    by_cases e : (a.jobs.any fun x => (x.num : Int) == n) = true
    · refine .inr ⟨0, a, rfl, ?_, ?_, fun k y hk => by omega⟩
      · obtain ⟨j, hj, q⟩ := List.any_eq_true.mp e
        exact ⟨j, hj, eq_of_beq q⟩
      · rw [List.any_cons, e]; rfl
    · have e' : (a.jobs.any fun x => (x.num : Int) == n) = false := by simpa using e
      have ea : ∀ j ∈ a.jobs, ¬ (j.num : Int) = n := fun j hj z => e (List.any_eq_true.mpr ⟨j, hj, beq_iff_eq.mpr z⟩)
      rcases ih with ⟨h1, h2⟩ | ⟨i, p, h1, h2, h3, h4⟩
      · refine .inl ⟨by rw [List.any_cons, e', h1]; rfl, fun i p hp => ?_⟩
        cases i with
        | zero => have := Option.some.inj hp; subst this; exact ea
        | succ i => exact h2 i p hp
      · refine .inr ⟨i + 1, p, h1, h2, by rw [List.any_cons, e', h3]; rfl, fun k y hk hy => ?_⟩
        cases k with
        | zero => have := Option.some.inj hy; subst this; exact ea
        | succ k => exact h4 k y (by omega) hy
end TS
end
section
set_option Elab.async false
namespace TS
open Vbwsak
theorem from_iff {n lo hi : Int} : ¬ from_ n lo hi = false ↔ (lo ≤ n ∧ n ≤ hi) := by
  unfold from_
  simp
theorem not_or3 {a b c : Prop} (h : ¬ (a ∨ b ∨ c)) : ¬ a ∧ ¬ b ∧ ¬ c := ⟨fun z => h (.inl z), fun z => h (.inr (.inl z)), fun z => h (.inr (.inr z))⟩
theorem jobsIn_erase : ∀ (l : List Player) (i : Nat), jobsIn (l.eraseIdx i) ≤ jobsIn l
  | [], _ => Nat.le_refl _
  | a :: l, 0 => by show jobsIn l ≤ jobsIn (a :: l); rw [jobsIn_cons]; omega
  | a :: l, i + 1 => by
    show jobsIn (a :: l.eraseIdx i) ≤ jobsIn (a :: l)
    rw [jobsIn_cons, jobsIn_cons]
    have := jobsIn_erase l i
    omega
theorem step_begin {s : State} {a b q : Int} (h : WF s) : WF (step s (.begin_ a b q)).1 := by
  show WF (if from_ a 0 MOST = false ∨ from_ b 20000 1000000 = false ∨ from_ q 100 10000 = false then no s 1 else yes { start with seed := a.toNat, budget := b.toNat, quantum := q.toNat } []).1
  split
  · exact h
  · rename_i hc
    obtain ⟨h1, h2, h3⟩ := not_or3 hc
    have h2 := from_iff.mp h2
    have h3 := from_iff.mp h3
    exact ⟨PW.nil _, ⟨by show 100 ≤ q.toNat; omega, by show q.toNat ≤ 10000; omega⟩, ⟨by show 20000 ≤ b.toNat; omega, by show b.toNat ≤ 1000000; omega⟩, by show 0 ≤ 8; omega, .inr rfl, by show 0 ≤ 64; omega⟩
theorem step_join {s : State} {p w : Int} (h : WF s) : WF (step s (.join p w)).1 := by
  show WF (if from_ p 1 999 = false ∨ from_ w 1 100 = false then no s 1 else if (findPlayer s p).isSome = true then no s 3 else if PLAYERS ≤ s.players.length then no s 5 else
    yes { s with players := s.players ++ [{ num := p.toNat, weight := w.toNat, jobs := [], saved := 0, served := 0 }] } [(s.players.length : Int) + 1]).1
  split
  · exact h
  · rename_i hc
    have h1 := from_iff.mp (fun z => hc (.inl z))
    have h2 := from_iff.mp (fun z => hc (.inr z))
    split
    · exact h
    · rename_i hf
      split
      · exact h
      · rename_i hl
        have hl' : s.players.length < 8 := by show s.players.length < PLAYERS; omega
        refine ⟨h.pw.join (fun i q hq e => ?_) ⟨by show 1 ≤ w.toNat; omega, by show w.toNat ≤ 100; omega⟩ rfl rfl, h.q, h.b, ?_, ?_, ?_⟩
        · rcases find_cases s.players p with ⟨_, a2⟩ | ⟨j, x, _, _, a3, _⟩
          · exact a2 i q hq (by have e' : q.num = p.toNat := e; omega)
          · exact hf (by unfold findPlayer; rw [a3]; rfl)
        · show (s.players ++ [_]).length ≤ 8
          rw [List.length_append, List.length_singleton]; omega
        · show s.at_ < (s.players ++ [_]).length ∨ _
          rw [List.length_append, List.length_singleton]
          rcases h.at_ with z | z
          · left; omega
          · left; omega
        · show jobsIn (s.players ++ [_]) ≤ 64
          rw [jobsIn_append]
          exact h.j64
theorem step_leave {s : State} {p : Int} (h : WF s) : WF (step s (.leave p)).1 := by
  show WF (match findPlayer s p with
    | none => no s 2
    | some x => yes { s with players := s.players.eraseIdx (placeIn s p), at_ := if s.players.length - 1 = 0 then 0 else if placeIn s p < s.at_ then s.at_ - 1 else if s.at_ < s.players.length - 1 then s.at_ else 0, begun := s.begun && placeIn s p != s.at_ } [(x.jobs.length : Int)]).1
  rcases find_cases s.players p with ⟨a1, a2⟩ | ⟨j, x, a1, a2, a3, a4, a5⟩
  · have : findPlayer s p = none := a1
    rw [this]
    exact h
  · have e1 : findPlayer s p = some x := a3
    have e2 : placeIn s p = j := a4
    rw [e1, e2]
    have hj := (List.getElem?_eq_some_iff.mp a1).1
    have hlen : (s.players.eraseIdx j).length = s.players.length - 1 := by rw [List.length_eraseIdx, if_pos hj]
    refine ⟨h.pw.erase j, h.q, h.b, ?_, ?_, ?_⟩
    · show (s.players.eraseIdx j).length ≤ 8
      have := h.n8
      omega
    · show (if s.players.length - 1 = 0 then 0 else if j < s.at_ then s.at_ - 1 else if s.at_ < s.players.length - 1 then s.at_ else 0) < (s.players.eraseIdx j).length ∨ (if s.players.length - 1 = 0 then 0 else if j < s.at_ then s.at_ - 1 else if s.at_ < s.players.length - 1 then s.at_ else 0) = 0
      rw [hlen]
      have := h.at_
      split
      · right; rfl
      · split
        · left; omega
        · split
          · left; omega
          · right; rfl
    · exact Nat.le_trans (jobsIn_erase _ _) h.j64
theorem step_job {s : State} {p t c n : Int} (h : WF s) : WF (step s (.job p t c n)).1 := by
  show WF (if from_ t 0 1000000 = false ∨ from_ c 1 (COST : Int) = false ∨ from_ n 1 1000000000 = false then no s 1 else match findPlayer s p with
    | none => no s 2
    | some x => if JOBS ≤ jobsIn s.players then no s 5 else
      yes { setPlayer s { x with jobs := x.jobs ++ [{ num := s.next, thing := t.toNat, cost := c.toNat, sides := n.toNat }] } with next := s.next + 1 } [(s.next : Int)]).1
  split
  · exact h
  · rename_i hc
    obtain ⟨h1, h2, h3⟩ := not_or3 hc
    have h2 := from_iff.mp h2
    have h3 := from_iff.mp h3
    rcases find_cases s.players p with ⟨a1, a2⟩ | ⟨j, x, a1, a2, a3, a4, a5⟩
    · have : findPlayer s p = none := a1
      rw [this]
      exact h
    · have e1 : findPlayer s p = some x := a3
      rw [e1]
      dsimp only
      split
      · exact h
      · rename_i hl
        have hl : jobsIn s.players < 64 := by show _ < JOBS; omega
        have e2 := set_by_num (p' := { x with jobs := x.jobs ++ [{ num := s.next, thing := t.toNat, cost := c.toNat, sides := n.toNat }] }) h.pw a1 rfl
        have hcost : (COST : Int) = 10000 := rfl
        refine ⟨?_, h.q, h.b, ?_, ?_, ?_⟩
        · show PW (s.players.map fun q => if q.num = _ then _ else q) (s.next + 1)
          rw [e2]
          exact h.pw.add a1 rfl ⟨by show 1 ≤ c.toNat; omega, by show c.toNat ≤ 10000; omega, by show 1 ≤ n.toNat; omega⟩
        · show (s.players.map _).length ≤ 8
          rw [List.length_map]; exact h.n8
        · show s.at_ < (s.players.map _).length ∨ _
          rw [List.length_map]; exact h.at_
        · show jobsIn (s.players.map fun q => if q.num = _ then _ else q) ≤ 64
          rw [e2]
          have := jobsIn_set (p := x) { x with jobs := x.jobs ++ [{ num := s.next, thing := t.toNat, cost := c.toNat, sides := n.toNat }] } a1
          rw [show ({ x with jobs := x.jobs ++ [{ num := s.next, thing := t.toNat, cost := c.toNat, sides := n.toNat }] } : Player).jobs.length = x.jobs.length + 1 by simp] at this
          omega
theorem step_drop {s : State} {n : Int} (h : WF s) : WF (step s (.drop n)).1 := by
  show WF (if (s.players.any fun p => p.jobs.any fun x => (x.num : Int) == n) = false then no s 2 else
    yes { s with players := s.players.map fun p => { p with jobs := p.jobs.filter fun x => (x.num : Int) != n, saved := if (p.jobs.filter fun x => (x.num : Int) != n).isEmpty = true then 0 else p.saved } } []).1
  rcases job_cases s.players n with ⟨a1, a2⟩ | ⟨i, p, a1, ⟨j, hj, ej⟩, a3, a4⟩
  · rw [if_pos a1]
    exact h
  · rw [if_neg (by rw [a3]; exact Bool.noConfusion)]
    obtain ⟨k, hk⟩ := List.getElem?_of_mem hj
    subst ej
    have e2 := drop_set h.pw a1 hk
    refine ⟨?_, h.q, h.b, ?_, ?_, ?_⟩
    · show PW (s.players.map _) s.next
      rw [e2]
      exact dropped_pw h.pw a1
    · show (s.players.map _).length ≤ 8
      rw [List.length_map]; exact h.n8
    · show s.at_ < (s.players.map _).length ∨ _
      rw [List.length_map]; exact h.at_
    · show jobsIn (s.players.map _) ≤ 64
      rw [e2]
      have := jobsIn_set (p := p) (dropped p k) a1
      have l1 : (dropped p k).jobs.length ≤ p.jobs.length := (List.eraseIdx_sublist p.jobs k).length_le
      have := h.j64
      omega
theorem step_tick {s : State} {k : Int} (h : WF s) : WF (step s (.tick k)).1 := by
  show WF (if from_ k 1 20 = false then no s 1 else if FARTICK < (s.tick : Int) + k then no s 5 else
    yes (tickedBy k.toNat s).1 (((tickedBy k.toNat s).1.tick : Int) :: doneRow (tickedBy k.toNat s).2)).1
  split
  · exact h
  · split
    · exact h
    · exact (WF.tickedBy _ h).1
theorem step_weigh {s : State} {p w : Int} (h : WF s) : WF (step s (.weigh p w)).1 := by
  show WF (if from_ w 1 100 = false then no s 1 else match findPlayer s p with
    | none => no s 2
    | some x => yes (setPlayer s { x with weight := w.toNat }) []).1
  split
  · exact h
  · rename_i hc
    have h1 := from_iff.mp hc
    rcases find_cases s.players p with ⟨a1, a2⟩ | ⟨j, x, a1, a2, a3, a4, a5⟩
    · have : findPlayer s p = none := a1
      rw [this]
      exact h
    · have e1 : findPlayer s p = some x := a3
      rw [e1]
      have e2 := set_by_num (p' := { x with weight := w.toNat }) h.pw a1 rfl
      refine ⟨?_, h.q, h.b, ?_, ?_, ?_⟩
      · show PW (s.players.map fun q => if q.num = _ then _ else q) s.next
        rw [e2]
        exact h.pw.set a1 rfl ⟨by show 1 ≤ w.toNat; omega, by show w.toNat ≤ 100; omega⟩ (List.Sublist.refl _) (h.pw.sv j x a1)
      · show (s.players.map _).length ≤ 8
        rw [List.length_map]; exact h.n8
      · show s.at_ < (s.players.map _).length ∨ _
        rw [List.length_map]; exact h.at_
      · show jobsIn (s.players.map fun q => if q.num = _ then _ else q) ≤ 64
        rw [e2]
        have := jobsIn_set (p := x) { x with weight := w.toNat } a1
        rw [show ({ x with weight := w.toNat } : Player).jobs.length = x.jobs.length from rfl] at this
        have := h.j64
        omega
theorem WF.step {s : State} (h : WF s) (c : Call) : WF (step s c).1 := by
  cases c with
  | begin_ a b q => exact step_begin h
  | join p w => exact step_join h
  | leave p => exact step_leave h
  | job p t c n => exact step_job h
  | drop n => exact step_drop h
  | tick k => exact step_tick h
  | weigh p w => exact step_weigh h
  | queue p =>
    show WF (match findPlayer s p with | none => no s 2 | some x => yes s _).1
    split <;> exact h
  | players => exact h
  | draw t th k sides =>
    show WF (if _ then no s 1 else yes s _).1
    split <;> exact h
  | raw t th k =>
    show WF (if _ then no s 1 else yes s _).1
    split <;> exact h
  | shuffle t th n =>
    show WF (if _ then no s 1 else yes s _).1
    split <;> exact h
  | pick t th ws =>
    show WF (if _ then no s 1 else if _ then no s 4 else yes s _).1
    split
    · exact h
    · split <;> exact h
  | bound p =>
    show WF (match findPlayer s p with | none => no s 2 | some x => if _ then no s 4 else yes s _).1
    split
    · exact h
    · split <;> exact h
  | try_ k =>
    show WF (if _ then no s 1 else yes s _).1
    split <;> exact h
  | state => exact h
end TS
end
section
set_option Elab.async false
set_option linter.all false
set_option maxRecDepth 100000
set_option maxHeartbeats 2000000
/-! the program's text by its places, what the top has written, defs by their names -/
namespace TS
open PySem PySem.Spec PyProof.Rows L2 TR
def top (i : Nat) : Stmt := PySem.Challenge.pw_turnshares_s01_answers.main.body.getD i (.Pass ⟨0, 0, 0, 0⟩)

abbrev s_stirred : Stmt := top 4
theorem sc_stirred : FnScope ["z", "a", "b"] ["z"] (defScope s_stirred) := ⟨rfl, rfl, rfl, by decide +kernel, rfl, by decide +kernel, by decide +kernel⟩
abbrev s_stirred_in : Stmt := top 5
theorem sc_stirred_in : FnScope ["before", "number"] ["before", "number"] (defScope s_stirred_in) := ⟨rfl, rfl, rfl, by decide +kernel, rfl, by decide +kernel, by decide +kernel⟩
abbrev s_raw_number : Stmt := top 6
theorem sc_raw_number : FnScope ["seed", "tick", "thing", "count", "attempt", "mixed", "number"] ["seed", "tick", "thing", "count", "attempt"] (defScope s_raw_number) := ⟨rfl, rfl, rfl, by decide +kernel, rfl, by decide +kernel, by decide +kernel⟩
abbrev s_draw : Stmt := top 7
theorem sc_draw : FnScope ["seed", "tick", "thing", "count", "sides", "limit", "attempt", "raw"] ["seed", "tick", "thing", "count", "sides"] (defScope s_draw) := ⟨rfl, rfl, rfl, by decide +kernel, rfl, by decide +kernel, by decide +kernel⟩
abbrev s_shuffled : Stmt := top 8
theorem sc_shuffled : FnScope ["seed", "tick", "thing", "size", "row", "place", "other", "moved"] ["seed", "tick", "thing", "size"] (defScope s_shuffled) := ⟨rfl, rfl, rfl, by decide +kernel, rfl, by decide +kernel, by decide +kernel⟩
abbrev s_picked : Stmt := top 9
theorem sc_picked : FnScope ["seed", "tick", "thing", "weights", "left", "place"] ["seed", "tick", "thing", "weights"] (defScope s_picked) := ⟨rfl, rfl, rfl, by decide +kernel, rfl, by decide +kernel, by decide +kernel⟩
abbrev s_Job___init__ : Stmt := inClass (top 13) 0
theorem sc_Job___init__ : FnScope ["self", "number", "thing", "cost", "sides"] ["self", "number", "thing", "cost", "sides"] (defScope s_Job___init__) := ⟨rfl, rfl, rfl, by decide +kernel, rfl, by decide +kernel, by decide +kernel⟩
abbrev s_Player___init__ : Stmt := inClass (top 14) 0
theorem sc_Player___init__ : FnScope ["self", "number", "weight"] ["self", "number", "weight"] (defScope s_Player___init__) := ⟨rfl, rfl, rfl, by decide +kernel, rfl, by decide +kernel, by decide +kernel⟩
abbrev s_Player_take_job : Stmt := inClass (top 14) 1
theorem sc_Player_take_job : FnScope ["self", "place", "job"] ["self", "place"] (defScope s_Player_take_job) := ⟨rfl, rfl, rfl, by decide +kernel, rfl, by decide +kernel, by decide +kernel⟩
abbrev s_Player_copied : Stmt := inClass (top 14) 2
theorem sc_Player_copied : FnScope ["self", "other"] ["self"] (defScope s_Player_copied) := ⟨rfl, rfl, rfl, by decide +kernel, rfl, by decide +kernel, by decide +kernel⟩
abbrev s_Session___init__ : Stmt := inClass (top 15) 0
theorem sc_Session___init__ : FnScope ["self"] ["self"] (defScope s_Session___init__) := ⟨rfl, rfl, rfl, by decide +kernel, rfl, by decide +kernel, by decide +kernel⟩
abbrev s_Session_begin : Stmt := inClass (top 15) 1
theorem sc_Session_begin : FnScope ["self", "seed", "budget", "quantum"] ["self", "seed", "budget", "quantum"] (defScope s_Session_begin) := ⟨rfl, rfl, rfl, by decide +kernel, rfl, by decide +kernel, by decide +kernel⟩
abbrev s_Session_copied : Stmt := inClass (top 15) 2
theorem sc_Session_copied : FnScope ["self", "other", "player"] ["self"] (defScope s_Session_copied) := ⟨rfl, rfl, rfl, by decide +kernel, rfl, by decide +kernel, by decide +kernel⟩
abbrev s_Session_place_of : Stmt := inClass (top 15) 3
theorem sc_Session_place_of : FnScope ["self", "number", "place", "player"] ["self", "number"] (defScope s_Session_place_of) := ⟨rfl, rfl, rfl, by decide +kernel, rfl, by decide +kernel, by decide +kernel⟩
abbrev s_Session_find_player : Stmt := inClass (top 15) 4
theorem sc_Session_find_player : FnScope ["self", "number", "place"] ["self", "number"] (defScope s_Session_find_player) := ⟨rfl, rfl, rfl, by decide +kernel, rfl, by decide +kernel, by decide +kernel⟩
abbrev s_Session_count_jobs : Stmt := inClass (top 15) 5
theorem sc_Session_count_jobs : FnScope ["self", "player"] ["self"] (defScope s_Session_count_jobs) := ⟨rfl, rfl, rfl, by decide +kernel, rfl, by decide +kernel, by decide +kernel⟩
abbrev s_Session_add_job : Stmt := inClass (top 15) 6
theorem sc_Session_add_job : FnScope ["self", "player", "thing", "cost", "sides", "job"] ["self", "player", "thing", "cost", "sides"] (defScope s_Session_add_job) := ⟨rfl, rfl, rfl, by decide +kernel, rfl, by decide +kernel, by decide +kernel⟩
abbrev s_Session_drop_job : Stmt := inClass (top 15) 7
theorem sc_Session_drop_job : FnScope ["self", "number", "player", "job", "numbers"] ["self", "number"] (defScope s_Session_drop_job) := ⟨rfl, rfl, rfl, by decide +kernel, rfl, by decide +kernel, by decide +kernel⟩
abbrev s_Session_remove_player : Stmt := inClass (top 15) 8
theorem sc_Session_remove_player : FnScope ["self", "place"] ["self", "place"] (defScope s_Session_remove_player) := ⟨rfl, rfl, rfl, by decide +kernel, rfl, by decide +kernel, by decide +kernel⟩
abbrev s_Session_give_turn : Stmt := inClass (top 15) 9
theorem sc_Session_give_turn : FnScope ["self", "place"] ["self", "place"] (defScope s_Session_give_turn) := ⟨rfl, rfl, rfl, by decide +kernel, rfl, by decide +kernel, by decide +kernel⟩
abbrev s_Session_pass_turn : Stmt := inClass (top 15) 10
theorem sc_Session_pass_turn : FnScope ["self"] ["self"] (defScope s_Session_pass_turn) := ⟨rfl, rfl, rfl, by decide +kernel, rfl, by decide +kernel, by decide +kernel⟩
abbrev s_Session_run_ticks : Stmt := inClass (top 15) 11
theorem sc_Session_run_ticks : FnScope ["self", "ticks", "row", "passed"] ["self", "ticks"] (defScope s_Session_run_ticks) := ⟨rfl, rfl, rfl, by decide +kernel, rfl, by decide +kernel, by decide +kernel⟩
abbrev s_Session_run_tick : Stmt := inClass (top 15) 12
theorem sc_Session_run_tick : FnScope ["self", "draws_made", "row", "waiting", "player"] ["self"] (defScope s_Session_run_tick) := ⟨rfl, rfl, rfl, by decide +kernel, rfl, by decide +kernel, by decide +kernel⟩
abbrev s_Session_do_job : Stmt := inClass (top 15) 13
theorem sc_Session_do_job : FnScope ["self", "player", "draws_made", "cost", "job", "count", "drawn"] ["self", "player", "draws_made"] (defScope s_Session_do_job) := ⟨rfl, rfl, rfl, by decide +kernel, rfl, by decide +kernel, by decide +kernel⟩
abbrev s_Session_bound_of : Stmt := inClass (top 15) 14
theorem sc_Session_bound_of : FnScope ["self", "player", "cost", "share", "rounds", "each", "weights", "saved"] ["self", "player"] (defScope s_Session_bound_of) := ⟨rfl, rfl, rfl, by decide +kernel, rfl, by decide +kernel, by decide +kernel⟩
abbrev s_all_within : Stmt := top 40
theorem sc_all_within : FnScope ["numbers", "ranges", "number", "told"] ["numbers", "ranges"] (defScope s_all_within) := ⟨rfl, rfl, rfl, by decide +kernel, rfl, by decide +kernel, by decide +kernel⟩
abbrev s_answer_begin : Stmt := top 41
theorem sc_answer_begin : FnScope ["session", "numbers"] ["session", "numbers"] (defScope s_answer_begin) := ⟨rfl, rfl, rfl, by decide +kernel, rfl, by decide +kernel, by decide +kernel⟩
abbrev s_answer_join : Stmt := top 42
theorem sc_answer_join : FnScope ["session", "numbers"] ["session", "numbers"] (defScope s_answer_join) := ⟨rfl, rfl, rfl, by decide +kernel, rfl, by decide +kernel, by decide +kernel⟩
abbrev s_answer_leave : Stmt := top 43
theorem sc_answer_leave : FnScope ["session", "numbers", "place", "gone"] ["session", "numbers"] (defScope s_answer_leave) := ⟨rfl, rfl, rfl, by decide +kernel, rfl, by decide +kernel, by decide +kernel⟩
abbrev s_answer_job : Stmt := top 44
theorem sc_answer_job : FnScope ["session", "numbers", "player", "job"] ["session", "numbers"] (defScope s_answer_job) := ⟨rfl, rfl, rfl, by decide +kernel, rfl, by decide +kernel, by decide +kernel⟩
abbrev s_answer_drop : Stmt := top 45
theorem sc_answer_drop : FnScope ["session", "numbers"] ["session", "numbers"] (defScope s_answer_drop) := ⟨rfl, rfl, rfl, by decide +kernel, rfl, by decide +kernel, by decide +kernel⟩
abbrev s_answer_tick : Stmt := top 46
theorem sc_answer_tick : FnScope ["session", "numbers", "row"] ["session", "numbers"] (defScope s_answer_tick) := ⟨rfl, rfl, rfl, by decide +kernel, rfl, by decide +kernel, by decide +kernel⟩
abbrev s_answer_queue : Stmt := top 47
theorem sc_answer_queue : FnScope ["session", "numbers", "player", "row", "job"] ["session", "numbers"] (defScope s_answer_queue) := ⟨rfl, rfl, rfl, by decide +kernel, rfl, by decide +kernel, by decide +kernel⟩
abbrev s_answer_players : Stmt := top 48
theorem sc_answer_players : FnScope ["session", "numbers", "row", "player"] ["session", "numbers"] (defScope s_answer_players) := ⟨rfl, rfl, rfl, by decide +kernel, rfl, by decide +kernel, by decide +kernel⟩
abbrev s_answer_weigh : Stmt := top 49
theorem sc_answer_weigh : FnScope ["session", "numbers", "player"] ["session", "numbers"] (defScope s_answer_weigh) := ⟨rfl, rfl, rfl, by decide +kernel, rfl, by decide +kernel, by decide +kernel⟩
abbrev s_answer_draw : Stmt := top 50
theorem sc_answer_draw : FnScope ["session", "numbers"] ["session", "numbers"] (defScope s_answer_draw) := ⟨rfl, rfl, rfl, by decide +kernel, rfl, by decide +kernel, by decide +kernel⟩
abbrev s_answer_raw : Stmt := top 51
theorem sc_answer_raw : FnScope ["session", "numbers", "raw"] ["session", "numbers"] (defScope s_answer_raw) := ⟨rfl, rfl, rfl, by decide +kernel, rfl, by decide +kernel, by decide +kernel⟩
abbrev s_answer_shuffle : Stmt := top 52
theorem sc_answer_shuffle : FnScope ["session", "numbers"] ["session", "numbers"] (defScope s_answer_shuffle) := ⟨rfl, rfl, rfl, by decide +kernel, rfl, by decide +kernel, by decide +kernel⟩
abbrev s_answer_pick : Stmt := top 53
theorem sc_answer_pick : FnScope ["session", "numbers", "weights", "weight"] ["session", "numbers"] (defScope s_answer_pick) := ⟨rfl, rfl, rfl, by decide +kernel, rfl, by decide +kernel, by decide +kernel⟩
abbrev s_answer_bound : Stmt := top 54
theorem sc_answer_bound : FnScope ["session", "numbers", "player"] ["session", "numbers"] (defScope s_answer_bound) := ⟨rfl, rfl, rfl, by decide +kernel, rfl, by decide +kernel, by decide +kernel⟩
abbrev s_answer_try : Stmt := top 55
theorem sc_answer_try : FnScope ["session", "numbers"] ["session", "numbers"] (defScope s_answer_try) := ⟨rfl, rfl, rfl, by decide +kernel, rfl, by decide +kernel, by decide +kernel⟩
abbrev s_answer_state : Stmt := top 56
theorem sc_answer_state : FnScope ["session", "numbers", "begun", "row"] ["session", "numbers"] (defScope s_answer_state) := ⟨rfl, rfl, rfl, by decide +kernel, rfl, by decide +kernel, by decide +kernel⟩
abbrev s_answer : Stmt := top 58
theorem sc_answer : FnScope ["session", "call", "numbers"] ["session", "call", "numbers"] (defScope s_answer) := ⟨rfl, rfl, rfl, by decide +kernel, rfl, by decide +kernel, by decide +kernel⟩
abbrev s_end_of_call : Stmt := top 62
theorem sc_end_of_call : FnScope ["calls", "start", "call", "end"] ["calls", "start"] (defScope s_end_of_call) := ⟨rfl, rfl, rfl, by decide +kernel, rfl, by decide +kernel, by decide +kernel⟩
abbrev s_answers : Stmt := top 63
theorem sc_answers : FnScope ["calls", "session", "given", "start", "end", "row"] ["calls"] (defScope s_answers) := ⟨rfl, rfl, rfl, by decide +kernel, rfl, by decide +kernel, by decide +kernel⟩

/-! ### names of the module -/
/-- a name that stands for a value -/
def GV (mg : Str → Option Value) (x : Str) (v : V) : Prop := ∃ u, mg x = some u ∧ RelV v u
/-- a name that stands for a tuple -/
def GT (K : PySem.W.Frag) (mg : Str → Option Value) (x : Str) (xs : List V) : Prop := ∃ a, mg x = some (.ref a) ∧ ∀ H, SqT K H a xs
structure Def (K : PySem.W.Frag) (x qual : Str) (st : Stmt) (f : Addr) (ps : List Str) : Prop where
  ex : ∃ fd, Fun K x qual st f fd ∧ Binds K fd ps []
def Dg (K : PySem.W.Frag) (mg : Str → Option Value) (x : Str) (st : Stmt) (ps : List Str) : Prop := ∃ f, mg x = some (.ref f) ∧ Def K x x st f ps
def Dm (K : PySem.W.Frag) (C : Addr) (m qual : Str) (st : Stmt) (ps : List Str) : Prop := ∃ f, Meth K C m f ∧ Def K m qual st f ps
def Dk (K : PySem.W.Frag) (C : Addr) (qual : Str) (st : Stmt) (ps : List Str) : Prop := ∃ f, Mk K C f ∧ Def K "__init__" qual st f ps
/-- a def by its name and promise -/
def FG (P : Program) (w : World) (K : PySem.W.Frag) (mg : Str → Option Value) (base : Heap) (k : Nat) (x : Str) (sp : Sp) : Prop := ∃ f, mg x = some (.ref f) ∧ FX P w K mg base k f sp
section
variable {P : Program} {w : World} {K : PySem.W.Frag} {mg : Str → Option Value} {base : Heap}
abbrev Body (P : Program) (w : World) (K : PySem.W.Frag) (mg : Str → Option Value) (base : Heap) (k : Nat) (qual : Str) (st : Stmt) (N : List Str) (sp : Sp) : Prop :=
  ∀ (f : Addr) (cdv : Value) (A : Around) (outer : List Env) (s : Shared) (H : Hp) (vs : List V) (Q : VK) (E : XK), Room k (A.deeper (envOfC qual (defScope st) s.heap.objs.size f cdv)) → sp vs H Q E →
      ∃ t, PSs (cxOf CX0 P w K mg base N qual (defScope st) f cdv A outer s H E).nox (defBody st) t ∧ t { nx := fun _ H' => Q .non H', rt := Q } (start N vs) H
theorem Def.fx {x qual : Str} {st : Stmt} {f : Addr} {N ps : List Str} {k : Nat} {sp : Sp} (D : Def K x qual st f ps) (S : FnScope N ps (defScope st)) (len : ∀ vs H Q E, sp vs H Q E → vs.length = ps.length) (hb : Body P w K mg base k qual st N sp) : FX P w K mg base (k + 1) f sp := by
  obtain ⟨fd, F, b⟩ := D.ex
  exact ⟨⟨fd, ps, F.ok S len (hb f), b⟩, F.kp⟩
theorem FG.of {x : Str} {st : Stmt} {N ps : List Str} {k : Nat} {sp : Sp} (D : Dg K mg x st ps) (S : FnScope N ps (defScope st)) (len : ∀ vs H Q E, sp vs H Q E → vs.length = ps.length) (hb : Body P w K mg base k x st N sp) : FG P w K mg base (k + 1) x sp := by
  obtain ⟨f, h, d⟩ := D
  exact ⟨f, h, d.fx S len hb⟩
theorem MX.of {C : Addr} {m qual : Str} {st : Stmt} {N ps : List Str} {k : Nat} {sp : Sp} (c : Cls K C) (D : Dm K C m qual st ps) (S : FnScope N ps (defScope st)) (len : ∀ vs H Q E, sp vs H Q E → vs.length = ps.length) (hb : Body P w K mg base k qual st N sp) : MX P w K mg base (k + 1) C m sp := by
  obtain ⟨f, h, d⟩ := D
  exact ⟨c, f, h, d.fx S len hb⟩
theorem KX.of {C : Addr} {qual : Str} {st : Stmt} {N ps : List Str} {k : Nat} {sp : Sp} (D : Dk K C qual st ps) (S : FnScope N ps (defScope st)) (len : ∀ vs H Q E, sp vs H Q E → vs.length = ps.length) (hb : Body P w K mg base k qual st N sp) : KX P w K mg base (k + 1) C sp := by
  obtain ⟨f, h, d⟩ := D
  exact ⟨f, h, d.fx S len hb⟩
theorem FX.mono {j k : Nat} {f : Addr} {sp : Sp} (F : FX P w K mg base j f sp) (h : j ≤ k) : FX P w K mg base k f sp := by
  obtain ⟨⟨fd, ps, G, b⟩, kp⟩ := F
  exact ⟨⟨fd, ps, G.mono h, b⟩, kp⟩
end
section
variable {X : Cx} {k : Nat} {sp : Sp} {x : Str} {p pos : Pos} {e : Expr} {es : List Expr} {t : TA}
theorem pe_fg (F : FG X.prog X.w X.K X.mg X.base k x sp) (hr : Room k X.A) (ha : PA X (e :: es) t) (hg : Gl X x := by rfl) (hdb : (x == ("__debug__" : Str)) = false := by decide)
    (he : starEach (e :: es) X.env = (false, eval e X.env) :: starEach es X.env := by rfl) (hpl : (backTo pos (starEach es X.env)).any (·.1) = false := by rfl) : PE X (.Call (.Name x p) (e :: es) [] pos) (tFx sp t) := by
  obtain ⟨f, hm, G⟩ := F
  exact pe_fx G hr hm ha hg hdb he hpl
theorem pe_g {v : V} (h : GV X.mg x v) (hg : Gl X x := by rfl) (hdb : (x == ("__debug__" : Str)) = false := by decide) : PE X (.Name x p) (tC v) := by
  obtain ⟨u, hm, r⟩ := h
  exact pe_glob hg hm r hdb
/-- a name of a tuple: its reading hands on the tuple's place -/
def tGt (K : PySem.W.Frag) (xs : List V) : TE := fun _ H Q => ∀ a, (∀ H, SqT K H a xs) → Q (.ref a) H
theorem pe_gt {xs : List V} (h : GT X.K X.mg x xs) (hg : Gl X x := by rfl) (hdb : (x == ("__debug__" : Str)) = false := by decide) : PE X (.Name x p) (tGt X.K xs) := by
  obtain ⟨a, hm, q⟩ := h
  exact pe_wk (pe_glob (v := .ref a) hg hm rfl hdb) fun σ H Q z => z a q
end
/-- what the top has written -/
structure Txt (K : PySem.W.Frag) (mg : Str → Option Value) (J Pl S : Addr) : Prop where
  cJ : Cls K J
  cP : Cls K Pl
  cS : Cls K S
  fJ : ∀ f ∈ (["number", "thing", "cost", "sides"] : List Str), NoAttr K J f
  fP : ∀ f ∈ (["number", "weight", "jobs", "saved", "done"] : List Str), NoAttr K Pl f
  fS : ∀ f ∈ (["seed", "budget", "quantum", "players", "tick", "next_job", "turn", "begun", "spent"] : List Str), NoAttr K S f
  mJ : mg "Job" = some (.ref J)
  mP : mg "Player" = some (.ref Pl)
  mS : mg "Session" = some (.ref S)
  b_range : mg "range" = none
  b_len : mg "len" = none
  b_sum : mg "sum" = none
  b_list : mg "list" = none
  b_zip : mg "zip" = none
  b_enumerate : mg "enumerate" = none
  g_WORD : GV mg "WORD" (.int 18446744073709551616)
  g_G : GV mg "G" (.int 11400714819323198485)
  g_LAST_TRY : GV mg "LAST_TRY" (.int 64)
  g_GREATEST_COST : GV mg "GREATEST_COST" (.int 10000)
  g_GREATEST_WEIGHT : GV mg "GREATEST_WEIGHT" (.int 100)
  g_NOT_IN_RANGE : GV mg "NOT_IN_RANGE" (.int (-1))
  g_NOT_THERE : GV mg "NOT_THERE" (.int (-2))
  g_THERE_ALREADY : GV mg "THERE_ALREADY" (.int (-3))
  g_NOTHING : GV mg "NOTHING" (.int (-4))
  g_NO_PLACE : GV mg "NO_PLACE" (.int (-5))
  g_MOST_PLAYERS : GV mg "MOST_PLAYERS" (.int 8)
  g_MOST_JOBS : GV mg "MOST_JOBS" (.int 64)
  g_LAST_TICK : GV mg "LAST_TICK" (.int 1000000000)
  g_HALF_WORD : GV mg "HALF_WORD" (.int 4294967296)
  g_PICK : GV mg "PICK" (.int 12)
  g_SEEDS : GT K mg "SEEDS" [.int 0, .int 1000000000000000000]
  g_BUDGETS : GT K mg "BUDGETS" [.int 20000, .int 1000000]
  g_QUANTUMS : GT K mg "QUANTUMS" [.int 100, .int 10000]
  g_PLAYERS : GT K mg "PLAYERS" [.int 1, .int 999]
  g_WEIGHTS : GT K mg "WEIGHTS" [.int 1, .int 100]
  g_THINGS : GT K mg "THINGS" [.int 0, .int 1000000]
  g_COSTS : GT K mg "COSTS" [.int 1, .int 10000]
  g_SIDES : GT K mg "SIDES" [.int 1, .int 1000000000]
  g_TICKS_AT_ONCE : GT K mg "TICKS_AT_ONCE" [.int 1, .int 20]
  g_TICKS : GT K mg "TICKS" [.int 0, .int 1000000000]
  g_COUNTS : GT K mg "COUNTS" [.int 0, .int 1000000]
  g_SHUFFLED : GT K mg "SHUFFLED" [.int 0, .int 64]
  g_ROW_LENGTHS : GT K mg "ROW_LENGTHS" [.int 1, .int 32]
  g_ROW_WEIGHTS : GT K mg "ROW_WEIGHTS" [.int 0, .int 1000000]
  g_LENGTHS : GT K mg "LENGTHS" [.int 3, .int 2, .int 1, .int 4, .int 1, .int 1, .int 1, .int 0, .int 2, .int 4, .int 3, .int 3, .int 3, .int 1, .int 1, .int 0]
  d_stirred : Dg K mg "stirred" s_stirred ["z"]
  d_stirred_in : Dg K mg "stirred_in" s_stirred_in ["before", "number"]
  d_raw_number : Dg K mg "raw_number" s_raw_number ["seed", "tick", "thing", "count", "attempt"]
  d_draw : Dg K mg "draw" s_draw ["seed", "tick", "thing", "count", "sides"]
  d_shuffled : Dg K mg "shuffled" s_shuffled ["seed", "tick", "thing", "size"]
  d_picked : Dg K mg "picked" s_picked ["seed", "tick", "thing", "weights"]
  k_Job : Dk K J "Job.__init__" s_Job___init__ ["self", "number", "thing", "cost", "sides"]
  k_Player : Dk K Pl "Player.__init__" s_Player___init__ ["self", "number", "weight"]
  m_Player_take_job : Dm K Pl "take_job" "Player.take_job" s_Player_take_job ["self", "place"]
  m_Player_copied : Dm K Pl "copied" "Player.copied" s_Player_copied ["self"]
  k_Session : Dk K S "Session.__init__" s_Session___init__ ["self"]
  m_Session_begin : Dm K S "begin" "Session.begin" s_Session_begin ["self", "seed", "budget", "quantum"]
  m_Session_copied : Dm K S "copied" "Session.copied" s_Session_copied ["self"]
  m_Session_place_of : Dm K S "place_of" "Session.place_of" s_Session_place_of ["self", "number"]
  m_Session_find_player : Dm K S "find_player" "Session.find_player" s_Session_find_player ["self", "number"]
  m_Session_count_jobs : Dm K S "count_jobs" "Session.count_jobs" s_Session_count_jobs ["self"]
  m_Session_add_job : Dm K S "add_job" "Session.add_job" s_Session_add_job ["self", "player", "thing", "cost", "sides"]
  m_Session_drop_job : Dm K S "drop_job" "Session.drop_job" s_Session_drop_job ["self", "number"]
  m_Session_remove_player : Dm K S "remove_player" "Session.remove_player" s_Session_remove_player ["self", "place"]
  m_Session_give_turn : Dm K S "give_turn" "Session.give_turn" s_Session_give_turn ["self", "place"]
  m_Session_pass_turn : Dm K S "pass_turn" "Session.pass_turn" s_Session_pass_turn ["self"]
  m_Session_run_ticks : Dm K S "run_ticks" "Session.run_ticks" s_Session_run_ticks ["self", "ticks"]
  m_Session_run_tick : Dm K S "run_tick" "Session.run_tick" s_Session_run_tick ["self"]
  m_Session_do_job : Dm K S "do_job" "Session.do_job" s_Session_do_job ["self", "player", "draws_made"]
  m_Session_bound_of : Dm K S "bound_of" "Session.bound_of" s_Session_bound_of ["self", "player"]
  d_all_within : Dg K mg "all_within" s_all_within ["numbers", "ranges"]
  d_answer_begin : Dg K mg "answer_begin" s_answer_begin ["session", "numbers"]
  d_answer_join : Dg K mg "answer_join" s_answer_join ["session", "numbers"]
  d_answer_leave : Dg K mg "answer_leave" s_answer_leave ["session", "numbers"]
  d_answer_job : Dg K mg "answer_job" s_answer_job ["session", "numbers"]
  d_answer_drop : Dg K mg "answer_drop" s_answer_drop ["session", "numbers"]
  d_answer_tick : Dg K mg "answer_tick" s_answer_tick ["session", "numbers"]
  d_answer_queue : Dg K mg "answer_queue" s_answer_queue ["session", "numbers"]
  d_answer_players : Dg K mg "answer_players" s_answer_players ["session", "numbers"]
  d_answer_weigh : Dg K mg "answer_weigh" s_answer_weigh ["session", "numbers"]
  d_answer_draw : Dg K mg "answer_draw" s_answer_draw ["session", "numbers"]
  d_answer_raw : Dg K mg "answer_raw" s_answer_raw ["session", "numbers"]
  d_answer_shuffle : Dg K mg "answer_shuffle" s_answer_shuffle ["session", "numbers"]
  d_answer_pick : Dg K mg "answer_pick" s_answer_pick ["session", "numbers"]
  d_answer_bound : Dg K mg "answer_bound" s_answer_bound ["session", "numbers"]
  d_answer_try : Dg K mg "answer_try" s_answer_try ["session", "numbers"]
  d_answer_state : Dg K mg "answer_state" s_answer_state ["session", "numbers"]
  d_answer : Dg K mg "answer" s_answer ["session", "call", "numbers"]
  d_end_of_call : Dg K mg "end_of_call" s_end_of_call ["calls", "start"]
  d_answers : Dg K mg "answers" s_answers ["calls"]
  g_ANSWERS : ∃ (a : Addr) (fs : List Addr), mg "ANSWERS" = some (.ref a) ∧ (∀ H, SqT K H a (fs.map V.ref)) ∧ fs.map (fun f => some (Value.ref f)) = (["answer_begin", "answer_join", "answer_leave", "answer_job", "answer_drop", "answer_tick", "answer_queue", "answer_players", "answer_weigh", "answer_draw", "answer_raw", "answer_shuffle", "answer_pick", "answer_bound", "answer_try", "answer_state"] : List Str).map mg
end TS
end
section
set_option Elab.async false
set_option linter.all false
set_option maxRecDepth 100000
set_option maxHeartbeats 2000000
/-! ### chance -/
namespace TS
open PySem PySem.Spec PyProof.Rows L2 TR
theorem xor_nat (a b : Nat) : Builtin.bitXor (a : Int) (b : Int) = ((a ^^^ b : Nat) : Int) := by
  rw [Bits.bitXor_pp (Int.natCast_nonneg _) (Int.natCast_nonneg _)]
  rfl
theorem div_nat (a b : Nat) : (a : Int) / (b : Int) = ((a / b : Nat) : Int) := rfl
theorem stir_1 (a : Nat) : Builtin.bitXor (a : Int) ((a : Int) / 1073741824) * 13787848793156543929 % 18446744073709551616 = ((Vbwsak.differ a (a / 1073741824) * 13787848793156543929 % Vbwsak.WORD : Nat) : Int) := by
  rw [show ((a : Int) / 1073741824) = ((a / 1073741824 : Nat) : Int) from rfl, xor_nat]
  unfold Vbwsak.differ Vbwsak.WORD
  generalize a ^^^ (a / 1073741824) = y
  omega
theorem stir_2 (a : Nat) : Builtin.bitXor (a : Int) ((a : Int) / 134217728) * 10723151780598845931 % 18446744073709551616 = ((Vbwsak.differ a (a / 134217728) * 10723151780598845931 % Vbwsak.WORD : Nat) : Int) := by
  rw [show ((a : Int) / 134217728) = ((a / 134217728 : Nat) : Int) from rfl, xor_nat]
  unfold Vbwsak.differ Vbwsak.WORD
  generalize a ^^^ (a / 134217728) = y
  omega
theorem stir_3 (a : Nat) : Builtin.bitXor (a : Int) ((a : Int) / 2147483648) = ((Vbwsak.differ a (a / 2147483648) : Nat) : Int) := by
  rw [show ((a : Int) / 2147483648) = ((a / 2147483648 : Nat) : Int) from rfl, xor_nat]
  rfl
theorem stir_all (z : Nat) {a b : Int} (ha : a = Builtin.bitXor (z : Int) ((z : Int) / 1073741824) * 13787848793156543929 % 18446744073709551616) (hb : b = Builtin.bitXor a (a / 134217728) * 10723151780598845931 % 18446744073709551616) : Builtin.bitXor b (b / 2147483648) = ((Vbwsak.stirred z : Nat) : Int) := by
  rw [stir_1] at ha
  rw [ha, stir_2] at hb
  rw [hb, stir_3]
  rfl
section
variable {P : Program} {w : World} {K : PySem.W.Frag} {mg : Str → Option Value} {base : Heap} {J Pl S : Addr}
def spStirred : Sp := fun vs H Q _ => ∃ z : Nat, vs = [.int z] ∧ Q (.int (Vbwsak.stirred z : Nat)) H
theorem ok_stirred (T : Txt K mg J Pl S) : FG P w K mg base 1 "stirred" spStirred := by
  refine FG.of (k := 0) T.d_stirred sc_stirred (fun vs H Q E h => by obtain ⟨z, rfl, _⟩ := h; rfl) fun f cdv A outer s H vs Q E hr h => ?_
  obtain ⟨z, rfl, k⟩ := h
  refine ⟨_, (pss_cons (ps_set (i := 1) sc_stirred.nd rfl (Or.inl rfl) (pe_op op_mod (pe_op op_mul (pe_op op_xor (pv 0) (pe_op op_fd (pv 0) pe_int)) pe_int) (pe_g T.g_WORD)))
      (pss_cons (ps_set (i := 2) sc_stirred.nd rfl (Or.inl rfl) (pe_op op_mod (pe_op op_mul (pe_op op_xor (pv 1) (pe_op op_fd (pv 1) pe_int)) pe_int) (pe_g T.g_WORD)))
      (pss_one (ps_ret (pe_op op_xor (pv 2) (pe_op op_fd (pv 2) pe_int)))))), ?_⟩
  refine ⟨_, rfl, _, rfl, _, _, rfl, rfl, ⟨by decide, by decide⟩, _, _, rfl, rfl, _, _, rfl, rfl, .inr ⟨by decide, by decide⟩, _, _, rfl, rfl, (by decide : (0 : Int) < _), ?_⟩
  refine ⟨_, rfl, _, rfl, _, _, rfl, rfl, ⟨by decide, by decide⟩, _, _, rfl, rfl, _, _, rfl, rfl, .inr ⟨by decide, by decide⟩, _, _, rfl, rfl, (by decide : (0 : Int) < _), ?_⟩
  refine ⟨_, rfl, _, rfl, _, _, rfl, rfl, ⟨by decide, by decide⟩, _, _, rfl, rfl, ?_⟩
  have e := stir_all z rfl rfl
  show Q (V.int _) H
  rw [e]
  exact k
theorem stirIn_ex : ∃ g : Nat → Nat → Nat, ∀ m n, g m n = Vbwsak.stirred ((m + (n + 1) * 11400714819323198485) % Vbwsak.WORD) := ⟨_, fun _ _ => rfl⟩
/-- one number stirred in (by choice: nothing unfolds it) -/
noncomputable def stirIn : Nat → Nat → Nat := Classical.choose stirIn_ex
theorem stirIn_eq (m n : Nat) : stirIn m n = Vbwsak.stirred ((m + (n + 1) * 11400714819323198485) % Vbwsak.WORD) := Classical.choose_spec stirIn_ex m n
def spStirIn : Sp := fun vs H Q _ => ∃ m n : Nat, vs = [.int m, .int n] ∧ Q (.int (stirIn m n : Nat)) H
theorem stirIn_z (m n : Nat) : ((m : Int) + ((n : Int) + 1) * 11400714819323198485) % 18446744073709551616 = (((m + (n + 1) * 11400714819323198485) % Vbwsak.WORD : Nat) : Int) := by
  unfold Vbwsak.WORD
  omega
theorem ok_stirred_in (T : Txt K mg J Pl S) : FG P w K mg base 2 "stirred_in" spStirIn := by
  refine FG.of (k := 1) T.d_stirred_in sc_stirred_in (fun vs H Q E h => by obtain ⟨m, n, rfl, _⟩ := h; rfl) fun f cdv A outer s H vs Q E hr h => ?_
  obtain ⟨m, n, rfl, k⟩ := h
  refine ⟨_, (pss_one (ps_ret (pe_fg (ok_stirred T) hr (pa_cons (pe_op op_mod (pe_op op_add (pv 0) (pe_op op_mul (pe_op op_add (pv 1) pe_int) (pe_g T.g_G))) (pe_g T.g_WORD)) pa_nil)))), ?_⟩
  exact ⟨_, rfl, _, rfl, _, _, rfl, rfl, _, _, rfl, rfl, .inr ⟨by decide, by decide⟩, _, _, rfl, rfl, _, _, rfl, rfl, (by decide : (0 : Int) < _), (m + (n + 1) * 11400714819323198485) % Vbwsak.WORD, congrArg (fun z => [V.int z]) (stirIn_z m n), (stirIn_eq m n) ▸ k⟩
noncomputable def mixOf (seed : Nat) (l : List Nat) : Nat := l.foldl stirIn (stirIn seed 0)
theorem mixOf_snoc (seed : Nat) (l : List Nat) (n : Nat) : mixOf seed (l ++ [n]) = stirIn (mixOf seed l) n := by
  unfold mixOf
  rw [List.foldl_append, List.foldl_cons, List.foldl_nil]
theorem mixOf_raw (seed tick thing k t : Nat) : mixOf seed [tick, thing, k, t] = Vbwsak.raw seed tick thing k t := by
  have e : ∀ m : Nat, stirIn m 0 = Vbwsak.stirred ((m + 11400714819323198485) % Vbwsak.WORD) := fun m => by
    rw [stirIn_eq, Nat.zero_add, Nat.one_mul]
  unfold mixOf
  rw [List.foldl_cons, List.foldl_cons, List.foldl_cons, List.foldl_cons, List.foldl_nil, e, stirIn_eq, stirIn_eq, stirIn_eq, stirIn_eq]
  exact (Vbwsak.raw.eq_1 _ _ _ _ _).symm
def spRaw : Sp := fun vs H Q _ => ∃ a b c d e : Nat, vs = [.int a, .int b, .int c, .int d, .int e] ∧ ∀ H', Same H H' → Q (.int (Vbwsak.raw a b c d e : Nat)) H'
theorem Same.refl (H : Hp) : Same H H := fun _ _ h => h
theorem Same.new {H : Hp} {p : Addr} {o : HO} (h : H p = none) : Same H (upd H p o) := fun b u e => by rw [upd_ne (ne_of_none e h)]; exact e
theorem sq_tup {H H' : Hp} {a : Addr} {xs : List V} (e : Same H H') (h : SqT K H a xs) : SqT K H' a xs := by
  rcases h with (h | ⟨o, h⟩) | h
  · exact .inl (.inl (e _ _ h))
  · exact .inl (.inr ⟨o, e _ _ h⟩)
  · exact .inr h
theorem take_snoc {α : Type} {l : List α} {i : Nat} {x : α} (h : l[i]? = some x) : l.take (i + 1) = l.take i ++ [x] := by
  rw [List.take_add_one, h]
  rfl
theorem at_ints {ns : List Nat} {i : Nat} {v : V} (h : (ns.map fun (n : Nat) => V.int (n : Int))[i]? = some v) : ∃ n, ns[i]? = some n ∧ v = .int n := by
  rw [List.getElem?_map] at h
  cases e : ns[i]? with
  | none => rw [e] at h; cases h
  | some n => rw [e] at h; exact ⟨n, rfl, (Option.some.inj h).symm⟩
theorem ok_raw_number (T : Txt K mg J Pl S) : FG P w K mg base 3 "raw_number" spRaw := by
  refine FG.of (k := 2) T.d_raw_number sc_raw_number (fun vs H Q E h => by obtain ⟨a, b, c, d, e, rfl, _⟩ := h; rfl) fun f cdv A outer s H vs Q E hr h => ?_
  obtain ⟨a, b, c, d, e, rfl, k⟩ := h
  refine ⟨_, (pss_cons (ps_set (i := 5) sc_raw_number.nd rfl (Or.inl rfl) (pe_fg (ok_stirred_in T) hr (pa_cons (pv 0) (pa_cons pe_int pa_nil))))
      (pss_cons (ps_for PassesOwn.never rfl (pi_tup (pe_tup (pa_cons (pv 1) (pa_cons (pv 2) (pa_cons (pv 3) (pa_cons (pv 4) pa_nil)))))) (pg_name (i := 6) sc_raw_number.nd rfl (Or.inl rfl))
      (pss_one (ps_set (i := 5) sc_raw_number.nd rfl (Or.inl rfl) (pe_fg (ok_stirred_in T) hr (pa_cons (pv 5) (pa_cons (pv 6) pa_nil))))))
      (pss_one (ps_ret (pv 5))))), ?_⟩
  refine ⟨_, rfl, a, 0, rfl, ?_⟩
  refine ⟨_, rfl, _, rfl, _, rfl, _, rfl, (by show 4 ≤ sizeLine; decide), fun t ht => ?_⟩
  refine ⟨t, rfl, ⟨_, SqT.of upd_same⟩, for_tup (K := K) (a := t) (xs := ([b, c, d, e] : List Nat).map fun (n : Nat) => V.int (n : Int)) (fun i σ H' => ∃ v : Option V, σ = [some (.int a), some (.int b), some (.int c), some (.int d), some (.int e), some (.int (mixOf a (([b, c, d, e] : List Nat).take i) : Nat)), v] ∧ Same (upd H t (.tup [.int b, .int c, .int d, .int e])) H') ⟨none, rfl, Same.refl _⟩ (fun i σ H' _ ⟨_, _, sm⟩ => sq_tup sm (SqT.of upd_same)) ?_ ?_⟩
  · rintro i x σ H' hi ⟨v, rfl, sm⟩
    obtain ⟨n, hn, rfl⟩ := at_ints hi
    refine ⟨_, rfl, _, rfl, mixOf a (([b, c, d, e] : List Nat).take i), n, rfl, ?_⟩
    exact ⟨_, by rw [take_snoc hn, mixOf_snoc]; rfl, sm⟩
  · rintro σ H' ⟨v, rfl, sm⟩
    refine ⟨_, rfl, ?_⟩
    have q := k H' ((Same.new ht).trans sm)
    rw [← mixOf_raw] at q
    have e4 : (([b, c, d, e] : List Nat).take (([b, c, d, e] : List Nat).map fun (n : Nat) => V.int (n : Int)).length) = [b, c, d, e] := rfl
    rw [e4]
    exact q
def spDraw : Sp := fun vs H Q _ => ∃ a b c d n : Nat, vs = [.int a, .int b, .int c, .int d, .int n] ∧ 1 ≤ n ∧ ∀ H', Same H H' → Q (.int (Vbwsak.draw a b c d n : Nat)) H'
theorem limit_z (n : Nat) (h : 1 ≤ n) : (18446744073709551616 : Int) - 18446744073709551616 % (n : Int) = ((Vbwsak.limit n : Nat) : Int) := by
  unfold Vbwsak.limit Vbwsak.WORD
  have h1 : 18446744073709551616 % n ≤ 18446744073709551616 := Nat.mod_le _ _
  rw [Int.ofNat_sub h1]
  rfl
theorem ok_draw (T : Txt K mg J Pl S) : FG P w K mg base 4 "draw" spDraw := by
  refine FG.of (k := 3) T.d_draw sc_draw (fun vs H Q E h => by obtain ⟨a, b, c, d, e, rfl, _⟩ := h; rfl) fun f cdv A outer s H vs Q E hr h => ?_
  obtain ⟨a, b, c, d, n, rfl, hn, k⟩ := h
  have e0 : Vbwsak.draw a b c d n = Vbwsak.drawFrom a b c d n 64 0 := by
    unfold Vbwsak.draw
    rw [if_neg (by omega)]
    rfl
  rw [e0] at k
  have n0 : (0 : Int) < (n : Int) := by omega
  refine ⟨_, (pss_cons (ps_set (i := 5) sc_draw.nd rfl (Or.inl rfl) (pe_op op_sub (pe_g T.g_WORD) (pe_op op_mod (pe_g T.g_WORD) (pv 4))))
      (pss_cons (ps_for PassesOwn.never rfl (pi_range1 rfl T.b_range (pa_cons (pe_g T.g_LAST_TRY) pa_nil)) (pg_name (i := 6) sc_draw.nd rfl (Or.inl rfl))
      (pss_cons (ps_set (i := 7) sc_draw.nd rfl (Or.inl rfl) (pe_fg (ok_raw_number T) hr (pa_cons (pv 0) (pa_cons (pv 1) (pa_cons (pv 2) (pa_cons (pv 3) (pa_cons (pv 6) pa_nil)))))))
      (pss_one (ps_if (pt_cmpR op_lt (pv 7) (pv 5) (nomark _)) (pss_one (ps_ret (pe_op op_mod (pv 7) (pv 4)))) pss_nil))))
      (pss_one (ps_ret (pe_op op_mod (pe_fg (ok_raw_number T) hr (pa_cons (pv 0) (pa_cons (pv 1) (pa_cons (pv 2) (pa_cons (pv 3) (pa_cons (pe_g T.g_LAST_TRY) pa_nil)))))) (pv 4)))))), ?_⟩
  refine ⟨_, rfl, _, _, rfl, rfl, n0, _, _, rfl, rfl, ?_⟩
  refine ⟨64, rfl, by decide, by decide, for_range (lo := 0) (n := 64) (fun i σ H' => ∃ v6 v7 : Option V, σ = [some (.int a), some (.int b), some (.int c), some (.int d), some (.int n), some (.int (Vbwsak.limit n : Nat)), v6, v7] ∧ Same H H' ∧ i ≤ 64 ∧ Vbwsak.drawFrom a b c d n 64 0 = Vbwsak.drawFrom a b c d n (64 - i) i) ⟨none, none, ?_, Same.refl _, by decide, rfl⟩ ?_ ?_⟩
  · rw [← limit_z n hn]
    rfl
  · rintro i σ H' hi ⟨v6, v7, rfl, sm, _, hd⟩
    have h64 : 64 - i = (64 - (i + 1)) + 1 := by omega
    refine ⟨_, rfl, _, rfl, _, rfl, _, rfl, _, rfl, a, b, c, d, i, by rw [show (0 : Int) + (i : Int) = (i : Int) by omega], fun H1 s1 => ?_⟩
    have un : Vbwsak.drawFrom a b c d n (64 - i) i = if Vbwsak.raw a b c d i < Vbwsak.limit n then Vbwsak.raw a b c d i % n else Vbwsak.drawFrom a b c d n (64 - (i + 1)) (i + 1) := by
      rw [h64]
      rfl
    refine ⟨_, rfl, _, rfl, _, _, rfl, rfl, _, rfl, ite2 (fun hc => ?_) fun hc => ?_⟩
    · have hc' : Vbwsak.raw a b c d i < Vbwsak.limit n := by
        have := of_decide_eq_true hc
        omega
      refine ⟨_, rfl, _, rfl, _, _, rfl, rfl, n0, ?_⟩
      have q := k H1 (sm.trans s1)
      rw [hd, un, if_pos hc'] at q
      exact q
    · have hc' : ¬ Vbwsak.raw a b c d i < Vbwsak.limit n := by
        intro z
        exact hc (decide_eq_true (by omega))
      refine ⟨_, _, rfl, sm.trans s1, hi, ?_⟩
      rw [hd, un, if_neg hc']
  · rintro σ H' ⟨v6, v7, rfl, sm, _, hd⟩
    refine ⟨_, rfl, _, rfl, _, rfl, _, rfl, a, b, c, d, 64, rfl, fun H1 s1 => ?_⟩
    refine ⟨_, rfl, _, _, rfl, rfl, n0, ?_⟩
    have q := k H1 (sm.trans s1)
    rw [hd] at q
    exact q
end
end TS
end
section
set_option Elab.async false
set_option linter.all false
set_option maxRecDepth 100000
set_option maxHeartbeats 2000000
/-! ### shuffled, picked -/
namespace TS
open PySem PySem.Spec PyProof.Rows L2 TR
theorem drawFrom_lt (a b c d n : Nat) (h : 1 ≤ n) : ∀ (f t : Nat), Vbwsak.drawFrom a b c d n f t < n
  | 0, t => by
    rw [Vbwsak.drawFrom.eq_1]
    exact Nat.mod_lt _ h
  | f + 1, t => by
    rw [Vbwsak.drawFrom.eq_2]
    split
    · exact Nat.mod_lt _ h
    · exact drawFrom_lt a b c d n h f (t + 1)
theorem draw_lt (a b c d n : Nat) (h : 1 ≤ n) : Vbwsak.draw a b c d n < n := by
  unfold Vbwsak.draw
  rw [if_neg (by omega)]
  exact drawFrom_lt a b c d n h _ _
theorem boot_list : bootBuiltins "list" = some (.type "list") := by decide +kernel
theorem boot_sum : bootBuiltins "sum" = some (.builtin "sum") := by decide +kernel
theorem ixN_nat {n j : Nat} (h : j < n) : ixN n (j : Int) = some j := by
  unfold ixN
  rw [if_pos (by omega), if_pos (by omega)]
  rfl
theorem exch_map (l : List Nat) (i j : Nat) (hi : i < l.length) (hj : j < l.length) : ((l.map fun (n : Nat) => V.int (n : Int)).set i (V.int (l.getD j 0 : Nat))).set j (V.int (l.getD i 0 : Nat)) = (Vbwsak.exchanged l i j).map fun (n : Nat) => V.int (n : Int) := by
  unfold Vbwsak.exchanged
  rw [List.map_set, List.map_set]
theorem at_nat {l : List Nat} {i : Nat} (hi : i < l.length) : (l.map fun (n : Nat) => V.int (n : Int))[i]? = some (V.int (l.getD i 0 : Nat)) := by
  rw [List.getElem?_map, List.getD_eq_getElem?_getD]
  rw [List.getElem?_eq_getElem hi]
  rfl
section
variable {P : Program} {w : World} {K : PySem.W.Frag} {mg : Str → Option Value} {base : Heap} {J Pl S : Addr}
def intsOf (l : List Nat) : List V := l.map fun (n : Nat) => V.int (n : Int)
def spShuffled : Sp := fun vs H Q _ => ∃ a b c n : Nat, vs = [.int a, .int b, .int c, .int n] ∧ n ≤ 64 ∧ ∀ (H' : Hp) (l : Addr), Same H H' → H l = none → H' l = some (.lst (intsOf (Vbwsak.shuffled a b c n))) → Q (.ref l) H'
theorem ok_shuffled (T : Txt K mg J Pl S) : FG P w K mg base 5 "shuffled" spShuffled := by
  refine FG.of (k := 4) T.d_shuffled sc_shuffled (fun vs H Q E h => by obtain ⟨a, b, c, d, rfl, _⟩ := h; rfl) fun f cdv A outer s H vs Q E hr h => ?_
  obtain ⟨a, b, c, n, rfl, hn, k⟩ := h
  refine ⟨_, (pss_cons (ps_set (i := 4) sc_shuffled.nd rfl (Or.inl rfl) (pe_callTy (cr_lr rfl) rfl T.b_list boot_list (pa_cons (pe_rv rfl T.b_range (pa_cons (pv 3) pa_nil)) pa_nil)))
      (pss_cons (ps_for PassesOwn.never rfl (pi_range3 rfl T.b_range (pa_cons (pe_op op_sub (pv 3) pe_int) (pa_cons pe_int (pa_cons (pe_un un_neg pe_int) pa_nil)))) (pg_name (i := 5) sc_shuffled.nd rfl (Or.inl rfl))
      (pss_cons (ps_set (i := 6) sc_shuffled.nd rfl (Or.inl rfl) (pe_fg (ok_draw T) hr (pa_cons (pv 0) (pa_cons (pv 1) (pa_cons (pv 2) (pa_cons (pv 5) (pa_cons (pe_op op_add (pv 5) pe_int) pa_nil)))))))
      (pss_cons (ps_set (i := 7) sc_shuffled.nd rfl (Or.inl rfl) (pe_ix ix_list (pv 4) (pv 5) (fun _ _ => rfl)))
      (pss_cons (ps_asg (pe_ix ix_list (pv 4) (pv 6) (fun _ _ => rfl)) (pg_sub (pv 4) (pv 5) set_list))
      (pss_one (ps_asg (pv 7) (pg_sub (pv 4) (pv 6) set_list)))))))
      (pss_one (ps_ret (pv 4))))), ?_⟩
  refine ⟨_, rfl, n, rfl, fun p hp => ⟨p, n, rfl, upd_same, by omega, fun l hl => ?_⟩⟩
  have hl0 : H l = none := by
    by_cases e : l = p
    · subst e; exact hp
    · rw [upd_ne e] at hl; exact hl
  have sm0 : Same H (upd (upd H p (.rng 0 n)) l (.lst (intsOf (List.range n)))) := (Same.new hp).trans (Same.new hl)
  refine ⟨_, rfl, _, _, rfl, rfl, _, rfl, (n : Int) - 1, 0, -1, ((n : Int) - 1 - 0).toNat, rfl, RgC.neg (by omega) (by omega) (by decide) (by decide), for_rangeC (lo := (n : Int) - 1) (c := -1) (n := ((n : Int) - 1 - 0).toNat) (fun i σ H' => ∃ (v5 v6 v7 : Option V) (r : List Nat),
    σ = [some (.int a), some (.int b), some (.int c), some (.int n), some (.ref l), v5, v6, v7] ∧ Same H H' ∧ H' l = some (.lst (intsOf r)) ∧ r.length = n ∧ Vbwsak.shuffled a b c n = Vbwsak.shuffleFrom a b c (n - i) r) ⟨none, none, none, List.range n, rfl, sm0, upd_same, List.length_range, rfl⟩ ?_ ?_⟩
  · rintro i σ H' hi ⟨v5, v6, v7, r, rfl, sm, hL, hlen, he⟩
    obtain ⟨q, hq⟩ : ∃ q : Nat, n - i = q + 1 ∧ 1 ≤ q := ⟨n - i - 1, by omega, by omega⟩
    have hz : (n : Int) - 1 + (i : Int) * -1 = (q : Int) := by omega
    refine ⟨_, rfl, _, rfl, _, rfl, _, rfl, _, rfl, _, _, rfl, rfl, a, b, c, q, q + 1, by rw [hz]; rfl, by omega, fun H1 s1 => ?_⟩
    have dl := draw_lt a b c q (q + 1) (by omega)
    generalize hd : Vbwsak.draw a b c q (q + 1) = d at dl
    have hL1 : H1 l = some (.lst (intsOf r)) := s1 _ _ hL
    refine ⟨_, rfl, _, rfl, l, _, _, _, rfl, rfl, SqL.of hL1, at_of (j := q) hz (at_nat (by omega)), ?_⟩
    refine ⟨_, rfl, _, rfl, l, _, _, _, rfl, rfl, SqL.of hL1, at_of (j := d) rfl (at_nat (by omega)), _, rfl, _, rfl, l, _, _, q, rfl, rfl, hL1, by rw [hz]; exact ixN_nat (by unfold intsOf; rw [List.length_map]; omega), ?_⟩
    refine ⟨_, rfl, _, rfl, _, rfl, l, _, _, d, rfl, rfl, upd_same, ixN_nat (by unfold intsOf; rw [List.length_set, List.length_map]; omega), ?_⟩
    refine ⟨_, _, _, Vbwsak.exchanged r q d, rfl, ?_, ?_, ?_, ?_⟩
    · intro b' o e
      have nb : b' ≠ l := ne_of_none e hl0
      rw [upd_ne nb, upd_ne nb]
      exact s1 _ _ (sm _ _ e)
    · rw [upd_same]
      exact congrArg (fun z => some (HO.lst z)) (exch_map r q d (by omega) (by omega))
    · unfold Vbwsak.exchanged
      rw [List.length_set, List.length_set]
      exact hlen
    · rw [he, hq.1, Vbwsak.shuffleFrom.eq_2, if_neg (by omega), hd]
      congr 1
      omega
  · rintro σ H' ⟨v5, v6, v7, r, rfl, sm, hL, hlen, he⟩
    refine ⟨_, rfl, k H' l sm hl0 ?_⟩
    rw [hL, he]
    have hz : n - ((n : Int) - 1 - 0).toNat = 0 ∨ n - ((n : Int) - 1 - 0).toNat = 1 := by omega
    rcases hz with z | z
    · rw [z, Vbwsak.shuffleFrom.eq_1]
    · rw [z, Vbwsak.shuffleFrom.eq_2, if_pos rfl]
theorem sum_ints : ∀ (l : List Nat), (l.map fun (n : Nat) => (n : Int)).sum = ((Vbwsak.sumOf l : Nat) : Int)
  | [] => rfl
  | x :: l => by
    rw [List.map_cons, List.sum_cons, sum_ints l, sumOf_cons]
    omega
def spPicked (K : PySem.W.Frag) : Sp := fun vs H Q _ => ∃ (a b c : Nat) (p : Addr) (ws : List Nat), vs = [.int a, .int b, .int c, .ref p] ∧ SqL K H p (intsOf ws) ∧ 1 ≤ Vbwsak.sumOf ws ∧ ∀ H', Same H H' → Q (.int (Vbwsak.pick a b c ws : Nat)) H'
theorem ints_map (ws : List Nat) : intsOf ws = (ws.map fun (n : Nat) => (n : Int)).map V.int := by
  unfold intsOf
  rw [List.map_map]
  rfl
theorem ok_picked (T : Txt K mg J Pl S) : FG P w K mg base 5 "picked" (spPicked K) := by
  refine FG.of (k := 4) T.d_picked sc_picked (fun vs H Q E h => by obtain ⟨a, b, c, d, ws, rfl, _⟩ := h; rfl) fun f cdv A outer s H vs Q E hr h => ?_
  obtain ⟨a, b, c, p, ws, rfl, hw, hs, k⟩ := h
  refine ⟨_, (pss_cons (ps_set (i := 4) sc_picked.nd rfl (Or.inl rfl) (pe_fg (ok_draw T) hr (pa_cons (pv 0) (pa_cons (pv 1) (pa_cons (pv 2) (pa_cons pe_int (pa_cons (pe_callB (cr_sum rfl) rfl T.b_sum boot_sum (pa_cons (pv 3) pa_nil)) pa_nil)))))))
      (pss_cons (ps_set (i := 5) sc_picked.nd rfl (Or.inl rfl) pe_int)
      (pss_cons (ps_while PassesOwn.never (pt_cmpR op_ge (pv 4) (pe_ix ix_list (pv 3) (pv 5) (fun _ _ => rfl)) (nomark _))
      (pss_cons (ps_aug (i := 4) sc_picked.nd rfl (Or.inl rfl) (pe_ix ix_list (pv 3) (pv 5) (fun _ _ => rfl)) ip_sub)
      (pss_one (ps_aug (i := 5) sc_picked.nd rfl (Or.inl rfl) pe_int ip_add))))
      (pss_one (ps_ret (pv 5)))))), ?_⟩
  refine ⟨_, rfl, _, rfl, _, rfl, _, rfl, p, ws.map (fun (n : Nat) => (n : Int)), rfl, (ints_map ws) ▸ hw, a, b, c, 0, Vbwsak.sumOf ws, by rw [sum_ints]; rfl, hs, fun H1 s1 => ?_⟩
  have dl := draw_lt a b c 0 (Vbwsak.sumOf ws) hs
  have hp : Vbwsak.pick a b c ws = Vbwsak.placeOf (Vbwsak.draw a b c 0 (Vbwsak.sumOf ws)) 0 ws := rfl
  rw [hp] at k
  generalize Vbwsak.draw a b c 0 (Vbwsak.sumOf ws) = d at dl k
  refine ⟨fun m σ H' => ∃ (x i : Nat), m = ws.length - i ∧ σ = [some (.int a), some (.int b), some (.int c), some (.ref p), some (.int x), some (.int i)] ∧ Same H H' ∧ x < Vbwsak.sumOf (ws.drop i) ∧ Vbwsak.placeOf d 0 ws = Vbwsak.placeOf x i (ws.drop i), ⟨_, d, 0, rfl, rfl, s1, dl, rfl⟩, ?_⟩
  rintro m σ H' ⟨x, i, rfl, rfl, sm, hx, he⟩
  have hi : i < ws.length := by
    refine Nat.lt_of_not_le fun z => ?_
    rw [List.drop_eq_nil_of_le z] at hx
    exact absurd hx (Nat.not_lt_zero _)
  have hd : ws.drop i = ws[i] :: ws.drop (i + 1) := List.drop_eq_getElem_cons hi
  have hat : (intsOf ws)[i]? = some (V.int (ws[i] : Nat)) := by
    unfold intsOf
    rw [List.getElem?_map, List.getElem?_eq_getElem hi]
    rfl
  rw [hd, sumOf_cons] at hx
  rw [hd, Vbwsak.placeOf.eq_2] at he
  refine ⟨_, rfl, _, rfl, _, rfl, p, _, _, _, rfl, rfl, sm.seq hw, atI_nat hat, _, _, rfl, rfl, _, rfl, ite2 (fun hc => ?_) fun hc => ?_⟩
  · have hc' : ¬ x < ws[i] := by
      have := of_decide_eq_true hc
      omega
    rw [if_neg hc'] at he
    refine ⟨fun σ' H2 => ∃ m', m' < ws.length - i ∧ ∃ (x i : Nat), m' = ws.length - i ∧ σ' = [some (.int a), some (.int b), some (.int c), some (.ref p), some (.int x), some (.int i)] ∧ Same H H2 ∧ x < Vbwsak.sumOf (ws.drop i) ∧ Vbwsak.placeOf d 0 ws = Vbwsak.placeOf x i (ws.drop i), fun σ' H2 z => z, ?_⟩
    refine ⟨_, rfl, _, rfl, _, rfl, p, _, _, _, rfl, rfl, sm.seq hw, atI_nat hat, _, _, rfl, rfl, ?_⟩
    refine ⟨_, rfl, _, _, rfl, rfl, ws.length - (i + 1), by omega, x - ws[i], i + 1, rfl, ?_, sm, by omega, he⟩
    have e1 : (x : Int) - (ws[i] : Int) = ((x - ws[i] : Nat) : Int) := by omega
    have e2 : (i : Int) + 1 = ((i + 1 : Nat) : Int) := by omega
    show [_, _, _, _, some (V.int ((x : Int) - (ws[i] : Int))), some (V.int ((i : Int) + 1))] = _
    rw [e1, e2]
  · have hc' : x < ws[i] := by
      refine Nat.lt_of_not_le fun z => hc (decide_eq_true ?_)
      omega
    rw [if_pos hc'] at he
    refine ⟨_, rfl, ?_⟩
    have q := k H' sm
    rw [he] at q
    exact q
end
end TS
end
section
set_option Elab.async false
set_option linter.all false
set_option maxRecDepth 100000
set_option maxHeartbeats 2000000
/-! ### the objects in the heap -/
namespace TS
open PySem PySem.Spec PyProof.Rows L2 TR
/-! heaps -/
theorem upd_id {H : Hp} {a : Addr} {o : HO} (h : H a = some o) : upd H a o = H := by
  funext b
  unfold upd
  split
  · rename_i e; rw [e, h]
  · rfl
theorem upd_comm {H : Hp} {a b : Addr} {o u : HO} (n : a ≠ b) : upd (upd H a o) b u = upd (upd H b u) a o := by
  funext c
  unfold upd
  by_cases e1 : c = a
  · by_cases e2 : c = b
    · exact absurd (e1.symm.trans e2) n
    · rw [if_neg e2, if_pos e1, if_pos e1]
  · by_cases e2 : c = b
    · rw [if_pos e2, if_neg e1, if_pos e2]
    · rw [if_neg e2, if_neg e1, if_neg e1, if_neg e2]
/-- all but what stands at these places is kept -/
def Kp (F : List Addr) (H H' : Hp) : Prop := ∀ b o, H b = some o → b ∉ F → H' b = some o
theorem Kp.refl {F : List Addr} (H : Hp) : Kp F H H := fun _ _ h _ => h
theorem Kp.trans {F : List Addr} {H H1 H2 : Hp} (a : Kp F H H1) (b : Kp F H1 H2) : Kp F H H2 := fun c o h n => b c o (a c o h n) n
theorem Kp.sub {F G : List Addr} {H H1 : Hp} (a : Kp F H H1) (s : ∀ x ∈ F, x ∈ G) : Kp G H H1 := fun c o h n => a c o h fun z => n (s c z)
theorem Kp.of {F : List Addr} {H H1 : Hp} (a : Same H H1) : Kp F H H1 := fun c o h _ => a c o h
theorem Kp.upd {F : List Addr} {H : Hp} {p : Addr} {o : HO} (h : p ∈ F) : Kp F H (L2.upd H p o) := fun c u e n => by
  rw [upd_ne (fun z => n (by rw [z]; exact h))]
  exact e
theorem Kp.new {F : List Addr} {H : Hp} {p : Addr} {o : HO} (h : H p = none) : Kp F H (L2.upd H p o) := Kp.of (Same.new h)
/-! attributes -/
def jf (n t c s : Int) : List (Str × V) := [("number", .int n), ("thing", .int t), ("cost", .int c), ("sides", .int s)]
def pf (n w : Int) (jl : Addr) (sv dn : Int) : List (Str × V) := [("number", .int n), ("weight", .int w), ("jobs", .ref jl), ("saved", .int sv), ("done", .int dn)]
def sf (seed budget quantum : Int) (pl : Addr) (tick next turn : Int) (begun : Bool) (spent : Int) : List (Str × V) :=
  [("seed", .int seed), ("budget", .int budget), ("quantum", .int quantum), ("players", .ref pl), ("tick", .int tick), ("next_job", .int next), ("turn", .int turn), ("begun", .bl begun), ("spent", .int spent)]
section
variable {K : PySem.W.Frag} {mg : Str → Option Value} {J Pl S : Addr}
theorem Txt.J0 (T : Txt K mg J Pl S) : NoAttr K J "number" := T.fJ _ (.head _)
theorem Txt.J1 (T : Txt K mg J Pl S) : NoAttr K J "thing" := T.fJ _ (.tail _ (.head _))
theorem Txt.J2 (T : Txt K mg J Pl S) : NoAttr K J "cost" := T.fJ _ (.tail _ (.tail _ (.head _)))
theorem Txt.J3 (T : Txt K mg J Pl S) : NoAttr K J "sides" := T.fJ _ (.tail _ (.tail _ (.tail _ (.head _))))
theorem Txt.P0 (T : Txt K mg J Pl S) : NoAttr K Pl "number" := T.fP _ (.head _)
theorem Txt.P1 (T : Txt K mg J Pl S) : NoAttr K Pl "weight" := T.fP _ (.tail _ (.head _))
theorem Txt.P2 (T : Txt K mg J Pl S) : NoAttr K Pl "jobs" := T.fP _ (.tail _ (.tail _ (.head _)))
theorem Txt.P3 (T : Txt K mg J Pl S) : NoAttr K Pl "saved" := T.fP _ (.tail _ (.tail _ (.tail _ (.head _))))
theorem Txt.P4 (T : Txt K mg J Pl S) : NoAttr K Pl "done" := T.fP _ (.tail _ (.tail _ (.tail _ (.tail _ (.head _)))))
theorem Txt.S0 (T : Txt K mg J Pl S) : NoAttr K S "seed" := T.fS _ (.head _)
theorem Txt.S1 (T : Txt K mg J Pl S) : NoAttr K S "budget" := T.fS _ (.tail _ (.head _))
theorem Txt.S2 (T : Txt K mg J Pl S) : NoAttr K S "quantum" := T.fS _ (.tail _ (.tail _ (.head _)))
theorem Txt.S3 (T : Txt K mg J Pl S) : NoAttr K S "players" := T.fS _ (.tail _ (.tail _ (.tail _ (.head _))))
theorem Txt.S4 (T : Txt K mg J Pl S) : NoAttr K S "tick" := T.fS _ (.tail _ (.tail _ (.tail _ (.tail _ (.head _)))))
theorem Txt.S5 (T : Txt K mg J Pl S) : NoAttr K S "next_job" := T.fS _ (.tail _ (.tail _ (.tail _ (.tail _ (.tail _ (.head _))))))
theorem Txt.S6 (T : Txt K mg J Pl S) : NoAttr K S "turn" := T.fS _ (.tail _ (.tail _ (.tail _ (.tail _ (.tail _ (.tail _ (.head _)))))))
theorem Txt.S7 (T : Txt K mg J Pl S) : NoAttr K S "begun" := T.fS _ (.tail _ (.tail _ (.tail _ (.tail _ (.tail _ (.tail _ (.tail _ (.head _))))))))
theorem Txt.S8 (T : Txt K mg J Pl S) : NoAttr K S "spent" := T.fS _ (.tail _ (.tail _ (.tail _ (.tail _ (.tail _ (.tail _ (.tail _ (.tail _ (.head _)))))))))
end
/-! the state -/
def JAt (J : Addr) (H : Hp) (c : Addr) (j : Vbwsak.Job) : Prop := ∃ dx, H c = some (.ins J dx (jf j.num j.thing j.cost j.sides))
structure JsAt (J : Addr) (H : Hp) (cs : List Addr) (l : List Vbwsak.Job) : Prop where
  len : cs.length = l.length
  at_ : ∀ (i : Nat) (c : Addr) (j : Vbwsak.Job), cs[i]? = some c → l[i]? = some j → JAt J H c j
def PAt (Pl : Addr) (H : Hp) (a jl : Addr) (q : Vbwsak.Player) : Prop := ∃ dx, H a = some (.ins Pl dx (pf q.num q.weight jl q.saved q.served))
structure PlAt (J Pl : Addr) (H : Hp) (a jl : Addr) (q : Vbwsak.Player) : Prop where
  pl : PAt Pl H a jl q
  js : ∃ cs : List Addr, H jl = some (.lst (cs.map V.ref)) ∧ JsAt J H cs q.jobs
/-- where the session's objects stand: itself, its dict, the list of its players, these, the lists of their jobs -/
structure Lay where
  p : Addr
  dx : Addr
  pl : Addr
  as : List Addr
  js : List Addr
def Lay.fp (L : Lay) : List Addr := L.p :: L.pl :: (L.as ++ L.js)
structure PsAt (J Pl : Addr) (H : Hp) (L : Lay) (ps : List Vbwsak.Player) : Prop where
  lst : H L.pl = some (.lst (L.as.map V.ref))
  la : L.as.length = ps.length
  lj : L.js.length = ps.length
  at_ : ∀ (i : Nat) (a jl : Addr) (q : Vbwsak.Player), L.as[i]? = some a → L.js[i]? = some jl → ps[i]? = some q → PlAt J Pl H a jl q
  na : L.as.Nodup
  nj : L.js.Nodup
  npl : L.pl ∉ L.js
def FAt (S : Addr) (H : Hp) (L : Lay) (s : Vbwsak.State) : Prop := H L.p = some (.ins S L.dx (sf s.seed s.budget s.quantum L.pl s.tick s.next s.at_ s.begun s.spent))
structure SAt (J Pl S : Addr) (H : Hp) (L : Lay) (s : Vbwsak.State) : Prop where
  ses : FAt S H L s
  ps : PsAt J Pl H L s.players
/-! unlike objects stand apart -/
theorem ne_len {H : Hp} {a b C D dx dy : Addr} {fs gs : List (Str × V)} (h : H a = some (.ins C dx fs)) (h' : H b = some (.ins D dy gs)) (n : fs.length ≠ gs.length) : a ≠ b :=
  ne_of h h' fun e => by
    injection e with _ _ e
    exact n (by rw [e])
theorem ne_il {H : Hp} {a b C dx : Addr} {fs : List (Str × V)} {xs : List V} (h : H a = some (.ins C dx fs)) (h' : H b = some (.lst xs)) : a ≠ b := ne_of h h' (by intro e; cases e)
section
variable {J Pl S : Addr} {H H' : Hp} {L : Lay} {s s' : Vbwsak.State} {ps : List Vbwsak.Player}
theorem JsAt.mono {cs : List Addr} {l : List Vbwsak.Job} (h : JsAt J H cs l) (k : ∀ c o, c ∈ cs → H c = some o → H' c = some o) : JsAt J H' cs l := ⟨h.len, fun i c j hc hj => by
  obtain ⟨dx, e⟩ := h.at_ i c j hc hj
  exact ⟨dx, k c _ (List.mem_of_getElem? hc) e⟩⟩
theorem JsAt.get {cs : List Addr} {l : List Vbwsak.Job} (h : JsAt J H cs l) {c : Addr} (hc : c ∈ cs) : ∃ j, JAt J H c j := by
  obtain ⟨i, hi⟩ := List.mem_iff_getElem?.mp hc
  have lt : i < l.length := by
    rw [← h.len]
    exact (List.getElem?_eq_some_iff.mp hi).1
  exact ⟨l[i], h.at_ i c l[i] hi (List.getElem?_eq_getElem lt)⟩
theorem PsAt.player (h : PsAt J Pl H L ps) {i : Nat} {q : Vbwsak.Player} (hq : ps[i]? = some q) : ∃ a jl, L.as[i]? = some a ∧ L.js[i]? = some jl ∧ PlAt J Pl H a jl q := by
  have lt := (List.getElem?_eq_some_iff.mp hq).1
  have h1 : L.as[i]? = some (L.as[i]'(by rw [h.la]; exact lt)) := List.getElem?_eq_getElem _
  have h2 : L.js[i]? = some (L.js[i]'(by rw [h.lj]; exact lt)) := List.getElem?_eq_getElem _
  exact ⟨_, _, h1, h2, h.at_ i _ _ q h1 h2 hq⟩
theorem PsAt.of_as (h : PsAt J Pl H L ps) {i : Nat} {a : Addr} (ha : L.as[i]? = some a) : ∃ jl q, L.js[i]? = some jl ∧ ps[i]? = some q ∧ PlAt J Pl H a jl q := by
  have lt : i < ps.length := by rw [← h.la]; exact (List.getElem?_eq_some_iff.mp ha).1
  have h1 : ps[i]? = some ps[i] := List.getElem?_eq_getElem lt
  have h2 : L.js[i]? = some (L.js[i]'(by rw [h.lj]; exact lt)) := List.getElem?_eq_getElem _
  exact ⟨_, _, h2, h1, h.at_ i _ _ _ ha h2 h1⟩
theorem PsAt.of_js (h : PsAt J Pl H L ps) {i : Nat} {jl : Addr} (hj : L.js[i]? = some jl) : ∃ a q, L.as[i]? = some a ∧ ps[i]? = some q ∧ PlAt J Pl H a jl q := by
  have lt : i < ps.length := by rw [← h.lj]; exact (List.getElem?_eq_some_iff.mp hj).1
  have h1 : ps[i]? = some ps[i] := List.getElem?_eq_getElem lt
  have h2 : L.as[i]? = some (L.as[i]'(by rw [h.la]; exact lt)) := List.getElem?_eq_getElem _
  exact ⟨_, _, h2, h1, h.at_ i _ _ _ h2 hj h1⟩
/-- what stands at a tracked place of the session -/
theorem SAt.some_fp (h : SAt J Pl S H L s) {b : Addr} (hb : b ∈ L.fp) : ∃ o, H b = some o := by
  unfold Lay.fp at hb
  rcases List.mem_cons.mp hb with rfl | hb
  · exact ⟨_, h.ses⟩
  rcases List.mem_cons.mp hb with rfl | hb
  · exact ⟨_, h.ps.lst⟩
  rcases List.mem_append.mp hb with hb | hb
  · obtain ⟨i, hi⟩ := List.mem_iff_getElem?.mp hb
    obtain ⟨jl, q, _, _, ⟨dx, e⟩, _⟩ := h.ps.of_as hi
    exact ⟨_, e⟩
  · obtain ⟨i, hi⟩ := List.mem_iff_getElem?.mp hb
    obtain ⟨a, q, _, _, _, cs, e, _⟩ := h.ps.of_js hi
    exact ⟨_, e⟩
/-- all players stay where what they stand on stays -/
theorem PsAt.mono (h : PsAt J Pl H L ps) (k : ∀ b o, H b = some o → (∃ xs, o = .lst xs) ∨ (∃ C dx fs, o = .ins C dx fs ∧ fs.length ≤ 5) → H' b = some o) : PsAt J Pl H' L ps := by
  refine ⟨k _ _ h.lst (.inl ⟨_, rfl⟩), h.la, h.lj, fun i a jl q ha hj hq => ?_, h.na, h.nj, h.npl⟩
  obtain ⟨⟨dx, e⟩, cs, e2, hc⟩ := h.at_ i a jl q ha hj hq
  refine ⟨⟨dx, k _ _ e (.inr ⟨_, _, _, rfl, by show 5 ≤ 5; decide⟩)⟩, cs, k _ _ e2 (.inl ⟨_, rfl⟩), ⟨hc.len, fun m c j hc' hj' => ?_⟩⟩
  obtain ⟨dy, e3⟩ := hc.at_ m c j hc' hj'
  exact ⟨dy, k _ _ e3 (.inr ⟨_, _, _, rfl, by show 4 ≤ 5; decide⟩)⟩
theorem PsAt.same (h : PsAt J Pl H L ps) (k : Same H H') : PsAt J Pl H' L ps := h.mono fun b o e _ => k b o e
theorem SAt.same (h : SAt J Pl S H L s) (k : Same H H') : SAt J Pl S H' L s := ⟨k _ _ h.ses, h.ps.same k⟩
/-- the session's own attributes change -/
theorem SAt.fields (h : SAt J Pl S H L s) (e : FAt S H' L s') (k : Kp [L.p] H H') (hp : s'.players = s.players) : SAt J Pl S H' L s' := by
  refine ⟨e, ?_⟩
  rw [hp]
  refine h.ps.mono fun b o eb hk => k b o eb fun z => ?_
  have z' : b = L.p := by simpa using z
  subst z'
  have e1 : H L.p = some _ := h.ses
  rw [e1] at eb
  rcases hk with ⟨xs, rfl⟩ | ⟨C, dx, fs, rfl, hl⟩
  · cases eb
  · injection eb with eb
    injection eb with _ _ eb
    have : fs.length = 9 := by rw [← eb]; rfl
    omega
/-- one player changes -/
theorem PsAt.set (h : PsAt J Pl H L ps) {i : Nat} {a jl : Addr} {q q' : Vbwsak.Player} (ha : L.as[i]? = some a) (hj : L.js[i]? = some jl) (hq : ps[i]? = some q) (hP : PlAt J Pl H' a jl q') (k : Kp [a, jl] H H') : PsAt J Pl H' L (ps.set i q') := by
  obtain ⟨⟨dx0, ea⟩, cs0, ejl, hc0⟩ := h.at_ i a jl q ha hj hq
  have pa : L.pl ≠ a := fun z => ne_il ea h.lst z.symm
  have pj : L.pl ≠ jl := fun z => h.npl (by rw [z]; exact List.mem_of_getElem? hj)
  have kk : ∀ b o, H b = some o → b ≠ a → b ≠ jl → H' b = some o := fun b o e n1 n2 => k b o e (by simp [n1, n2])
  refine ⟨kk _ _ h.lst pa pj, by rw [List.length_set]; exact h.la, by rw [List.length_set]; exact h.lj, fun m a' jl' r ha' hj' hr => ?_, h.na, h.nj, h.npl⟩
  rcases at_set hr with ⟨e, er⟩ | ⟨ne, hr'⟩
  · subst e er
    have e1 : a' = a := Option.some.inj (ha'.symm.trans ha)
    have e2 : jl' = jl := Option.some.inj (hj'.symm.trans hj)
    subst e1 e2
    exact hP
  · obtain ⟨⟨dx, e⟩, cs, e2, hc⟩ := h.at_ m a' jl' r ha' hj' hr'
    have n1 : a' ≠ a := fun z => ne (nd_ix h.na ha' (by rw [z]; exact ha))
    have n2 : jl' ≠ jl := fun z => ne (nd_ix h.nj hj' (by rw [z]; exact hj))
    refine ⟨⟨dx, kk _ _ e n1 (ne_il e ejl)⟩, cs, kk _ _ e2 (fun z => ne_il ea e2 z.symm) n2, hc.mono fun c o hm eo => ?_⟩
    obtain ⟨j, dy, e3⟩ := hc.get hm
    exact kk _ _ eo (ne_len e3 ea (by show (4 : Nat) ≠ 5; decide)) (ne_il e3 ejl)
theorem SAt.set (h : SAt J Pl S H L s) {i : Nat} {a jl : Addr} {q q' : Vbwsak.Player} (ha : L.as[i]? = some a) (hj : L.js[i]? = some jl) (hq : s.players[i]? = some q) (hP : PlAt J Pl H' a jl q') (k : Kp [a, jl] H H') : SAt J Pl S H' L { s with players := s.players.set i q' } := by
  obtain ⟨⟨dx0, ea⟩, cs0, ejl, hc0⟩ := h.ps.at_ i a jl q ha hj hq
  have e : H L.p = some _ := h.ses
  refine ⟨k _ _ e ?_, h.ps.set ha hj hq hP k⟩
  have n1 : L.p ≠ a := ne_len e ea (by show (9 : Nat) ≠ 5; decide)
  have n2 : L.p ≠ jl := ne_il e ejl
  simp [n1, n2]
theorem fp_p : L.p ∈ L.fp := List.mem_cons_self
theorem fp_pl : L.pl ∈ L.fp := List.mem_cons_of_mem _ List.mem_cons_self
theorem fp_as {i : Nat} {a : Addr} (h : L.as[i]? = some a) : a ∈ L.fp := List.mem_cons_of_mem _ (List.mem_cons_of_mem _ (List.mem_append_left _ (List.mem_of_getElem? h)))
theorem fp_js {i : Nat} {a : Addr} (h : L.js[i]? = some a) : a ∈ L.fp := List.mem_cons_of_mem _ (List.mem_cons_of_mem _ (List.mem_append_right _ (List.mem_of_getElem? h)))
end
/-- what a call does to the heap: it changes the session's objects alone, and those that come to it are new -/
structure Ch (H H' : Hp) (L L' : Lay) : Prop where
  keep : Kp L.fp H H'
  fresh : ∀ b ∈ L'.fp, b ∈ L.fp ∨ H b = none
theorem Ch.trans {H H1 H2 : Hp} {L L1 L2 : Lay} (a : Ch H H1 L L1) (b : Ch H1 H2 L1 L2) : Ch H H2 L L2 := by
  refine ⟨fun c o e n => b.keep c o (a.keep c o e n) fun z => ?_, fun c hc => ?_⟩
  · rcases a.fresh c z with h | h
    · exact n h
    · rw [e] at h; cases h
  · rcases b.fresh c hc with h | h
    · exact a.fresh c h
    · by_cases m : c ∈ L.fp
      · exact .inl m
      · refine .inr ?_
        cases e : H c with
        | none => rfl
        | some o => rw [a.keep c o e m] at h; cases h
theorem Ch.of {H H' : Hp} {L : Lay} (k : Kp L.fp H H') : Ch H H' L L := ⟨k, fun _ h => .inl h⟩
theorem Ch.refl (H : Hp) (L : Lay) : Ch H H L L := .of (Kp.refl H)
end TS
end
section
set_option Elab.async false
set_option linter.all false
set_option maxRecDepth 100000
set_option maxHeartbeats 2000000
/-! ### the small methods -/
namespace TS
open PySem PySem.Spec PyProof.Rows L2 TR
theorem erase_map {α β : Type} (g : α → β) : ∀ (l : List α) (i : Nat), (l.map g).eraseIdx i = (l.eraseIdx i).map g
  | [], i => rfl
  | x :: l, 0 => rfl
  | x :: l, i + 1 => by
    rw [List.map_cons, List.eraseIdx_cons_succ, List.eraseIdx_cons_succ, List.map_cons, erase_map g l i]
theorem tru_l {K : PySem.W.Frag} {H : Hp} {p : Addr} {xs : List V} (h : SqL K H p xs) : TruV K (.ref p) H (!xs.isEmpty) := by
  show (∃ ys, SqL K H p ys ∧ (!xs.isEmpty) = !ys.isEmpty) ∨ _
  exact .inl ⟨xs, h, rfl⟩
theorem tru_b {K : PySem.W.Frag} {H : Hp} (b : Bool) : TruV K (.bl b) H b := rfl
theorem few {fs : List (Str × V)} (h : Nat.ble (fs.length + 1) 1000 = true) : fs.length < 1000 := Nat.le_of_ble_eq_true h
section
variable {P : Program} {w : World} {K : PySem.W.Frag} {mg : Str → Option Value} {base : Heap} {J Pl S : Addr}
def spJob (J : Addr) : Sp := fun vs H Q _ => ∃ (p dx : Addr) (n t c d : Int), vs = [.ref p, .int n, .int t, .int c, .int d] ∧ H p = some (.ins J dx []) ∧ Q .non (upd H p (.ins J dx (jf n t c d)))
theorem ok_Job (T : Txt K mg J Pl S) : KX P w K mg base 1 J (spJob J) := by
  refine KX.of (k := 0) T.k_Job sc_Job___init__ (fun vs H Q E h => by obtain ⟨_, _, _, _, _, _, rfl, _⟩ := h; rfl) fun f cdv A outer s H vs Q E hr h => ?_
  obtain ⟨p, dx, n, t, c, d, rfl, hp, k⟩ := h
  refine ⟨_, (pss_cons (ps_fld (pv 0) (pv 1) rfl)
      (pss_cons (ps_fld (pv 0) (pv 2) rfl)
      (pss_cons (ps_fld (pv 0) (pv 3) rfl)
      (pss_one (ps_fld (pv 0) (pv 4) rfl))))), ?_⟩
  refine ⟨_, rfl, _, rfl, p, J, dx, _, rfl, hp, T.cJ, T.J0, few rfl, ?_⟩
  refine ⟨_, rfl, _, rfl, p, J, dx, _, rfl, upd_same, T.cJ, T.J1, few rfl, ?_⟩
  refine ⟨_, rfl, _, rfl, p, J, dx, _, rfl, upd_same, T.cJ, T.J2, few rfl, ?_⟩
  refine ⟨_, rfl, _, rfl, p, J, dx, _, rfl, upd_same, T.cJ, T.J3, few rfl, ?_⟩
  rw [upd_upd, upd_upd, upd_upd]
  exact k
def spPlayer (Pl : Addr) : Sp := fun vs H Q _ => ∃ (p dx : Addr) (n w : Int), vs = [.ref p, .int n, .int w] ∧ H p = some (.ins Pl dx []) ∧ ∀ jl, H jl = none → Q .non (upd (upd H jl (.lst [])) p (.ins Pl dx (pf n w jl 0 0)))
theorem ok_Player (T : Txt K mg J Pl S) : KX P w K mg base 1 Pl (spPlayer Pl) := by
  refine KX.of (k := 0) T.k_Player sc_Player___init__ (fun vs H Q E h => by obtain ⟨_, _, _, _, rfl, _⟩ := h; rfl) fun f cdv A outer s H vs Q E hr h => ?_
  obtain ⟨p, dx, n, u, rfl, hp, k⟩ := h
  refine ⟨_, (pss_cons (ps_fld (pv 0) (pv 1) rfl)
      (pss_cons (ps_fld (pv 0) (pv 2) rfl)
      (pss_cons (ps_fld (pv 0) (pe_lst pa_nil) rfl)
      (pss_cons (ps_fld (pv 0) pe_int rfl)
      (pss_one (ps_fld (pv 0) pe_int rfl)))))), ?_⟩
  refine ⟨_, rfl, _, rfl, p, Pl, dx, _, rfl, hp, T.cP, T.P0, few rfl, ?_⟩
  refine ⟨_, rfl, _, rfl, p, Pl, dx, _, rfl, upd_same, T.cP, T.P1, few rfl, ?_⟩
  refine ⟨Nat.zero_le _, fun jl hjl => ?_⟩
  have nj : p ≠ jl := ne_of_none upd_same hjl
  rw [upd_upd, upd_ne (Ne.symm nj)] at hjl
  rw [upd_upd]
  refine ⟨_, rfl, p, Pl, dx, _, rfl, (by rw [upd_ne nj]; exact upd_same), T.cP, T.P2, few rfl, ?_⟩
  refine ⟨_, rfl, p, Pl, dx, _, rfl, upd_same, T.cP, T.P3, few rfl, ?_⟩
  refine ⟨_, rfl, p, Pl, dx, _, rfl, upd_same, T.cP, T.P4, few rfl, ?_⟩
  rw [upd_upd, upd_upd, upd_comm nj, upd_upd]
  exact k jl hjl
def spBegin (S : Addr) : Sp := fun vs H Q _ => ∃ (p dx : Addr) (fs : List (Str × V)) (a b c : Int), vs = [.ref p, .int a, .int b, .int c] ∧ H p = some (.ins S dx fs) ∧ (fs = [] ∨ ∃ a b c d e f g h i, fs = sf a b c d e f g h i) ∧ ∀ pl, H pl = none → Q .non (upd (upd H pl (.lst [])) p (.ins S dx (sf a b c pl 0 1 0 false 0)))
theorem ok_begin (T : Txt K mg J Pl S) : MX P w K mg base 1 S "begin" (spBegin S) := by
  refine MX.of (k := 0) T.cS T.m_Session_begin sc_Session_begin (fun vs H Q E h => by obtain ⟨_, _, _, _, _, _, rfl, _⟩ := h; rfl) fun f cdv A outer s H vs Q E hr h => ?_
  obtain ⟨p, dx, fs, a, b, c, rfl, hp, hf, k⟩ := h
  refine ⟨_, (pss_cons (ps_fld (pv 0) (pv 1) rfl)
      (pss_cons (ps_fld (pv 0) (pv 2) rfl)
      (pss_cons (ps_fld (pv 0) (pv 3) rfl)
      (pss_cons (ps_fld (pv 0) (pe_lst pa_nil) rfl)
      (pss_cons (ps_fld (pv 0) pe_int rfl)
      (pss_cons (ps_fld (pv 0) pe_int rfl)
      (pss_cons (ps_fld (pv 0) pe_int rfl)
      (pss_cons (ps_fld (pv 0) pe_bl rfl)
      (pss_one (ps_fld (pv 0) pe_int rfl)))))))))), ?_⟩
  rcases hf with rfl | ⟨a0, b0, c0, d0, e0, f0, g0, h0, i0, rfl⟩
  all_goals
    refine ⟨_, rfl, _, rfl, p, S, dx, _, rfl, hp, T.cS, T.S0, few rfl, ?_⟩
    refine ⟨_, rfl, _, rfl, p, S, dx, _, rfl, upd_same, T.cS, T.S1, few rfl, ?_⟩
    refine ⟨_, rfl, _, rfl, p, S, dx, _, rfl, upd_same, T.cS, T.S2, few rfl, ?_⟩
    refine ⟨Nat.zero_le _, fun pl hpl => ?_⟩
    have nj : p ≠ pl := ne_of_none upd_same hpl
    rw [upd_upd, upd_upd, upd_ne (Ne.symm nj)] at hpl
    rw [upd_upd, upd_upd]
    refine ⟨_, rfl, p, S, dx, _, rfl, (by rw [upd_ne nj]; exact upd_same), T.cS, T.S3, few rfl, ?_⟩
    refine ⟨_, rfl, p, S, dx, _, rfl, upd_same, T.cS, T.S4, few rfl, ?_⟩
    refine ⟨_, rfl, p, S, dx, _, rfl, upd_same, T.cS, T.S5, few rfl, ?_⟩
    refine ⟨_, rfl, p, S, dx, _, rfl, upd_same, T.cS, T.S6, few rfl, ?_⟩
    refine ⟨_, rfl, p, S, dx, _, rfl, upd_same, T.cS, T.S7, few rfl, ?_⟩
    refine ⟨_, rfl, p, S, dx, _, rfl, upd_same, T.cS, T.S8, few rfl, ?_⟩
    rw [upd_upd, upd_upd, upd_upd, upd_upd, upd_upd, upd_comm nj, upd_upd]
    exact k pl hpl
def spSession (S : Addr) : Sp := fun vs H Q _ => ∃ (p dx : Addr), vs = [.ref p] ∧ H p = some (.ins S dx []) ∧ ∀ pl, H pl = none → Q .non (upd (upd H pl (.lst [])) p (.ins S dx (sf 0 20000 100 pl 0 1 0 false 0)))
theorem ok_Session (T : Txt K mg J Pl S) : KX P w K mg base 2 S (spSession S) := by
  refine KX.of (k := 1) T.k_Session sc_Session___init__ (fun vs H Q E h => by obtain ⟨_, _, rfl, _⟩ := h; rfl) fun f cdv A outer s H vs Q E hr h => ?_
  obtain ⟨p, dx, rfl, hp, k⟩ := h
  refine ⟨_, (pss_one (ps_expr (pe_mx (pv 0) (ok_begin T) hr (pa_cons pe_int (pa_cons pe_int (pa_cons pe_int pa_nil)))))), ?_⟩
  exact ⟨_, rfl, p, dx, _, rfl, hp, rfl, p, dx, _, 0, 20000, 100, rfl, hp, .inl rfl, k⟩
/-- a job taken from a player's list -/
def spTake (Pl : Addr) : Sp := fun vs H Q _ => ∃ (a dx jl : Addr) (n w sv dn : Int) (cs : List Addr) (i : Nat) (c : Addr), vs = [.ref a, .int i] ∧ H a = some (.ins Pl dx (pf n w jl sv dn)) ∧ H jl = some (.lst (cs.map V.ref)) ∧ cs.length ≤ 64 ∧ cs[i]? = some c ∧
  Q (.ref c) (upd (upd H jl (.lst ((cs.eraseIdx i).map V.ref))) a (.ins Pl dx (pf n w jl (if (cs.eraseIdx i).isEmpty = true then 0 else sv) dn)))
theorem seqIx {i n : Nat} (h : i < n) : seqIndex? (i : Int) n = some i := by
  unfold seqIndex?
  have h1 : ¬ (i : Int) < 0 := by omega
  have h2 : (i : Int) < n := by omega
  simp [h1, h2]
theorem ok_take (T : Txt K mg J Pl S) : MX P w K mg base 1 Pl "take_job" (spTake Pl) := by
  refine MX.of (k := 0) T.cP T.m_Player_take_job sc_Player_take_job (fun vs H Q E h => by obtain ⟨_, _, _, _, _, _, _, _, _, _, rfl, _⟩ := h; rfl) fun f cdv A outer s H vs Q E hr h => ?_
  obtain ⟨a, dx, jl, n, u, sv, dn, cs, i, c, rfl, ha, hj, hlen, hc, k⟩ := h
  have hi : i < cs.length := (List.getElem?_eq_some_iff.mp hc).1
  have nj : a ≠ jl := ne_il ha hj
  refine ⟨_, (pss_cons (ps_set (i := 2) sc_Player_take_job.nd rfl (Or.inl rfl) (pe_bm PySem.F.plainAttrs_list PySem.F.slot_list_pop PySem.F.type_list_pop mt_popAt (pe_fld (pv 0) rfl) (pa_cons (pv 1) pa_nil)))
      (pss_cons (ps_if (pt_not (pt_truth (pe_fld (pv 0) rfl) (fun _ => rfl))) (pss_one (ps_fld (pv 0) pe_int rfl)) pss_nil)
      (pss_one (ps_ret (pv 2))))), ?_⟩
  refine ⟨_, rfl, a, Pl, dx, _, _, rfl, ha, T.cP, T.P2, rfl, .inl ⟨rfl, _, SqL.of hj⟩, _, rfl, jl, _, (i : Int), i, _, rfl, rfl, hj, by omega, by omega, seqIx (by rw [List.length_map]; exact hi), by rw [List.getElem?_map, hc]; rfl, ?_⟩
  rw [erase_map]
  refine ⟨_, rfl, a, Pl, dx, _, _, rfl, (by rw [upd_ne nj]; exact ha), T.cP, T.P2, rfl, _, tru_l (SqL.of upd_same), ?_⟩
  cases e : cs.eraseIdx i with
  | nil =>
    rw [e] at k
    refine ⟨_, rfl, a, Pl, dx, _, rfl, (by rw [upd_ne nj]; exact ha), T.cP, T.P3, few rfl, ?_⟩
    exact ⟨_, rfl, k⟩
  | cons x r =>
    rw [e] at k
    refine ⟨_, rfl, ?_⟩
    have e1 : upd H jl (.lst ((x :: r).map V.ref)) a = some (.ins Pl dx (pf n u jl sv dn)) := by rw [upd_ne nj]; exact ha
    have k' := k
    rw [show (if (x :: r).isEmpty = true then (0 : Int) else sv) = sv from rfl, upd_id e1] at k'
    exact k'
/-- the turn is given to a place -/
def spGive (K : PySem.W.Frag) (S : Addr) : Sp := fun vs H Q _ => ∃ (p dx pl : Addr) (a b c : Int) (e f g : Int) (h : Bool) (i : Int) (xs : List V) (k : Nat), vs = [.ref p, .int k] ∧ H p = some (.ins S dx (sf a b c pl e f g h i)) ∧ H pl = some (.lst xs) ∧
  Q .non (upd H p (.ins S dx (sf a b c pl e f (if k < xs.length then k else 0 : Nat) false i)))
theorem ok_give (T : Txt K mg J Pl S) : MX P w K mg base 1 S "give_turn" (spGive K S) := by
  refine MX.of (k := 0) T.cS T.m_Session_give_turn sc_Session_give_turn (fun vs H Q E h => by obtain ⟨_, _, _, _, _, _, _, _, _, _, _, _, _, rfl, _⟩ := h; rfl) fun f cdv A outer s H vs Q E hr h => ?_
  obtain ⟨p, dx, pl, a, b, c, e, f, g, h, i, xs, m, rfl, hp, hl, k⟩ := h
  refine ⟨_, (pss_cons (ps_fld (pv 0) (pe_ifExp (pt_cmpR op_lt (pv 1) (pe_callB call_len_seq rfl T.b_len PySem.boot_len (pa_cons (pe_fld (pv 0) rfl) pa_nil)) (nomark _)) (pv 1) pe_int) rfl)
      (pss_one (ps_fld (pv 0) pe_bl rfl))), ?_⟩
  refine ⟨_, rfl, _, rfl, p, S, dx, _, _, rfl, hp, T.cS, T.S3, rfl, pl, xs, rfl, .inl (SqL.of hl), _, _, rfl, rfl, _, rfl, ite2 (fun hc => ?_) fun hc => ?_⟩
  · have hc' : m < xs.length := by
      have := of_decide_eq_true hc
      omega
    rw [if_pos hc'] at k
    refine ⟨_, rfl, _, rfl, p, S, dx, _, rfl, hp, T.cS, T.S6, few rfl, ?_⟩
    refine ⟨_, rfl, p, S, dx, _, rfl, upd_same, T.cS, T.S7, few rfl, ?_⟩
    rw [upd_upd]
    exact k
  · have hc' : ¬ m < xs.length := fun z => hc (decide_eq_true (by omega))
    rw [if_neg hc'] at k
    refine ⟨_, rfl, p, S, dx, _, rfl, hp, T.cS, T.S6, few rfl, ?_⟩
    refine ⟨_, rfl, p, S, dx, _, rfl, upd_same, T.cS, T.S7, few rfl, ?_⟩
    rw [upd_upd]
    exact k
def spPass (K : PySem.W.Frag) (S : Addr) : Sp := fun vs H Q _ => ∃ (p dx pl : Addr) (a b c : Int) (e f : Int) (g : Nat) (h : Bool) (i : Int) (xs : List V), vs = [.ref p] ∧ H p = some (.ins S dx (sf a b c pl e f g h i)) ∧ H pl = some (.lst xs) ∧
  Q .non (upd H p (.ins S dx (sf a b c pl e f (if g + 1 < xs.length then g + 1 else 0 : Nat) false i)))
theorem ok_pass (T : Txt K mg J Pl S) : MX P w K mg base 2 S "pass_turn" (spPass K S) := by
  refine MX.of (k := 1) T.cS T.m_Session_pass_turn sc_Session_pass_turn (fun vs H Q E h => by obtain ⟨_, _, _, _, _, _, _, _, _, _, _, _, rfl, _⟩ := h; rfl) fun f cdv A outer s H vs Q E hr h => ?_
  obtain ⟨p, dx, pl, a, b, c, e, f, g, h, i, xs, rfl, hp, hl, k⟩ := h
  refine ⟨_, (pss_one (ps_expr (pe_mx (pv 0) (ok_give T) hr (pa_cons (pe_op op_add (pe_fld (pv 0) rfl) pe_int) pa_nil)))), ?_⟩
  exact ⟨_, rfl, p, dx, _, rfl, hp, rfl, _, rfl, p, S, dx, _, _, rfl, hp, T.cS, T.S6, rfl, _, _, rfl, rfl, p, dx, pl, a, b, c, e, f, g, h, i, xs, g + 1, rfl, hp, hl, k⟩
end
end TS
end
section
set_option Elab.async false
set_option linter.all false
set_option maxRecDepth 100000
set_option maxHeartbeats 2000000
/-! ### looking players and jobs up -/
namespace TS
open PySem PySem.Spec PyProof.Rows L2 TR
theorem for_enum {K : PySem.W.Frag} {a : Addr} {xs : List V} {g : TG} {tb : TS} {D : Ends} {σ : L2.St} {H : Hp} (Pv : Nat → L2.St → Hp → Prop) (h0 : Pv 0 σ H) (hl : ∀ i σ H, i ≤ xs.length → Pv i σ H → SqL K H a xs)
    (hs : ∀ (i : Nat) x σ H (T : Addr), xs[i]? = some x → Pv i σ H → H T = none → g (.ref T) σ (upd H T (.tup [.int (i : Nat), x])) fun σ2 H2 => tb { D with nx := Pv (i + 1), ct := Pv (i + 1), bk := D.nx } σ2 H2) (hd : ∀ σ H, Pv xs.length σ H → D.nx σ H) :
    ∃ W : Nat → Nat → L2.St → Hp → Prop, (∃ m, W 0 m σ H) ∧ ∀ i m σ H, W i m σ H →
      ((Ite K a).stop i H ∧ D.nx σ H) ∨ ((Ite K a).go i H ∧ ∃ N : L2.St → Hp → Prop, (∀ σ' H', N σ' H' → ∃ m', m' < m ∧ W (i + 1) m' σ' H') ∧ ∀ x H', (Ite K a).yld i H x H' → g x σ H' fun σ2 H2 => tb { D with nx := N, ct := N, bk := D.nx } σ2 H2) := by
  refine ⟨fun i m σ H => m = xs.length - i ∧ i ≤ xs.length ∧ Pv i σ H, ⟨xs.length, rfl, Nat.zero_le _, h0⟩, ?_⟩
  rintro i m σ H ⟨rfl, hi, p⟩
  have q := hl i σ H hi p
  by_cases lt : i < xs.length
  · refine .inr ⟨⟨xs, xs[i], q, List.getElem?_eq_getElem lt⟩, Pv (i + 1), fun σ' H' p' => ⟨xs.length - (i + 1), by omega, rfl, lt, p'⟩, fun x H' y => ?_⟩
    obtain ⟨T, x', rfl, hT, rfl, hx⟩ := y
    exact hs i x' σ H T (hx xs q) p hT
  · have e : i = xs.length := by omega
    subst e
    exact .inl ⟨⟨xs, q, Nat.le_refl _⟩, hd σ H p⟩
/-- a comprehension without a test whose item leaves all as it was -/
theorem lc_pure {K : PySem.W.Frag} {a D : Addr} {xs ys : List V} {n : Nat} {te : TE} {σ : L2.St} {H1 : Hp} {Qd : Hp → Prop} (hx : SqL K H1 a xs) (hD : H1 D = none) (hl : ys.length = xs.length) (hz : xs.length ≤ sizeLine)
    (hs : ∀ (i : Nat) (x y : V) (H' : Hp), xs[i]? = some x → ys[i]? = some y → Same H1 H' → ∀ Q : VK, (∀ H4, Same H' H4 → Q y H4) → te ((wipe σ [n]).set n (some x)) H' Q) (hd : ∀ H', Same H1 H' → H' D = some (.lst ys) → Qd H') :
    ∃ W : Nat → Nat → Hp → Prop, (∃ m, W 0 m (upd H1 D (.lst []))) ∧ ∀ i m H, W i m H →
      ((Itl K a).stop i H ∧ Qd H) ∨ ((Itl K a).go i H ∧ ∃ Nx : Hp → Prop, (∀ H', Nx H' → ∃ m', m' < m ∧ W (i + 1) m' H') ∧ ∀ x H', (Itl K a).yld i H x H' → gName n x (wipe σ [n]) H' fun σ2 H2 => wipe σ2 [n] = wipe σ [n] ∧ tYes σ2 H2 fun b H3 =>
        if b = true then te σ2 H3 fun y H4 => ∃ acc, H4 D = some (.lst acc) ∧ acc.length < sizeLine ∧ Nx (upd H4 D (.lst (acc ++ [y]))) else Nx H3) := by
  refine lc_list (K := K) (a := a) (xs := xs) (fun i H => Same H1 H ∧ H D = some (.lst (ys.take i))) ⟨Same.new hD, upd_same⟩ (fun i H _ p => p.1.seq hx) (fun i x H hi p => ?_) fun H p => ?_
  · have lt : i < ys.length := by rw [hl]; exact (List.getElem?_eq_some_iff.mp hi).1
    refine ⟨?_, ?_⟩
    rotate_left
    · refine hs i x ys[i] H hi (List.getElem?_eq_getElem lt) p.1 _ fun H4 s4 => ⟨_, s4 _ _ p.2, ?_, ?_, ?_⟩
      · rw [List.length_take]
        omega
      · exact fun b o e => by rw [upd_ne (ne_of_none e hD)]; exact s4 _ _ (p.1 _ _ e)
      · rw [upd_same, take_snoc (List.getElem?_eq_getElem lt)]
    · show ((σ.set n none).set n (some x)).set n none = σ.set n none
      rw [List.set_set, List.set_set]
  · refine hd H p.1 ?_
    have e := p.2
    rw [← hl, List.take_length] at e
    exact e
theorem find_none {ps : List Vbwsak.Player} {n : Int} (h : ∀ (i : Nat) (p : Vbwsak.Player), ps[i]? = some p → ¬ (p.num : Int) = n) : ps.find? (fun p => (p.num : Int) == n) = none := by
  rcases find_cases ps n with ⟨h1, _⟩ | ⟨i, x, h1, h2, _⟩
  · exact h1
  · exact absurd h2 (h i x h1)
theorem find_some {ps : List Vbwsak.Player} {n : Int} {i : Nat} {x : Vbwsak.Player} (h1 : ps[i]? = some x) (h2 : (x.num : Int) = n) (h3 : ∀ (k : Nat) (y : Vbwsak.Player), k < i → ps[k]? = some y → ¬ (y.num : Int) = n) :
    ps.find? (fun p => (p.num : Int) == n) = some x ∧ ps.findIdx (fun p => (p.num : Int) == n) = i := by
  rcases find_cases ps n with ⟨_, h⟩ | ⟨m, y, a1, a2, a3, a4, a5⟩
  · exact absurd h2 (h i x h1)
  · have e : m = i := by
      rcases Nat.lt_trichotomy m i with z | z | z
      · exact absurd a2 (h3 m y z a1)
      · exact z
      · exact absurd h2 (a5 i x z h1)
    subst e
    have e2 : y = x := Option.some.inj (a1.symm.trans h1)
    subst e2
    exact ⟨a3, a4⟩
theorem at_refs {as : List Addr} {i : Nat} {v : V} (h : (as.map V.ref)[i]? = some v) : ∃ a, as[i]? = some a ∧ v = .ref a := by
  rw [List.getElem?_map] at h
  cases e : as[i]? with
  | none => rw [e] at h; cases h
  | some a => rw [e] at h; exact ⟨a, rfl, (Option.some.inj h).symm⟩
theorem refs_at {as : List Addr} {i : Nat} {a : Addr} (h : as[i]? = some a) : (as.map V.ref)[i]? = some (.ref a) := by rw [List.getElem?_map, h]; rfl
section
variable {P : Program} {w : World} {K : PySem.W.Frag} {mg : Str → Option Value} {base : Heap} {J Pl S : Addr}
def spPlace (J Pl S : Addr) : Sp := fun vs H Q _ => ∃ (L : Lay) (s : Vbwsak.State) (n : Int), vs = [.ref L.p, .int n] ∧ SAt J Pl S H L s ∧
  (∀ H', Same H H' → (∀ (i : Nat) (p : Vbwsak.Player), s.players[i]? = some p → ¬ (p.num : Int) = n) → Q .non H') ∧
  ∀ (H' : Hp) (i : Nat) (x : Vbwsak.Player), Same H H' → s.players[i]? = some x → (x.num : Int) = n → (∀ (k : Nat) (y : Vbwsak.Player), k < i → s.players[k]? = some y → ¬ (y.num : Int) = n) → Q (.int i) H'
theorem ok_place (T : Txt K mg J Pl S) : MX P w K mg base 1 S "place_of" (spPlace J Pl S) := by
  refine MX.of (k := 0) T.cS T.m_Session_place_of sc_Session_place_of (fun vs H Q E h => by obtain ⟨_, _, _, rfl, _⟩ := h; rfl) fun f cdv A outer s H vs Q E hr h => ?_
  obtain ⟨L, st, n, rfl, hS, k1, k2⟩ := h
  refine ⟨_, (pss_cons (ps_for PassesOwn.never rfl (pi_enum rfl T.b_enumerate (pa_cons (pe_fld (pv 0) rfl) pa_nil)) (pg_tup rfl (pgs_cons (pg_name (i := 2) sc_Session_place_of.nd rfl (Or.inl rfl)) (pgs_cons (pg_name (i := 3) sc_Session_place_of.nd rfl (Or.inl rfl)) pgs_nil)))
      (pss_one (ps_if (pt_cmpR op_eq (pe_fld (pv 3) rfl) (pv 1) (nomark _)) (pss_one (ps_ret (pv 2))) pss_nil)))
      (pss_one (ps_ret pe_non))), ?_⟩
  refine ⟨_, rfl, L.p, S, L.dx, _, _, rfl, hS.ses, T.cS, T.S3, rfl, L.pl, _, rfl, SqL.of hS.ps.lst, for_enum (K := K) (a := L.pl) (xs := L.as.map V.ref) (fun i σ H' => ∃ v2 v3 : Option V, σ = [some (.ref L.p), some (.int n), v2, v3] ∧ Same H H' ∧ ∀ (k : Nat) (y : Vbwsak.Player), k < i → st.players[k]? = some y → ¬ (y.num : Int) = n) ⟨none, none, rfl, Same.refl _, fun k y hk => by omega⟩ (fun i σ H' _ ⟨_, _, _, sm, _⟩ => sm.seq (SqL.of hS.ps.lst)) ?_ ?_⟩
  · rintro i x σ H' t hi ⟨v2, v3, rfl, sm, hb⟩ ht
    obtain ⟨a, ha, rfl⟩ := at_refs hi
    obtain ⟨jl, q, hj, hq, ⟨dx, hP⟩, _⟩ := hS.ps.of_as ha
    have sm2 : Same H (upd H' t (.tup [.int (i : Nat), .ref a])) := sm.trans (Same.new ht)
    refine ⟨t, _, rfl, SqT.of upd_same, rfl, _, _, rfl, _, _, rfl, rfl, ?_⟩
    refine ⟨_, rfl, a, Pl, dx, _, _, rfl, sm2 _ _ hP, T.cP, T.P0, rfl, _, rfl, rfl, _, rfl, ite2 (fun hc => ?_) fun hc => ?_⟩
    · have hc' : (q.num : Int) = n := by
        have := of_decide_eq_true hc
        injection this
      exact ⟨_, rfl, k2 _ i q sm2 hq hc' hb⟩
    · have hc' : ¬ (q.num : Int) = n := fun z => hc (decide_eq_true (by rw [z]))
      refine ⟨_, _, rfl, sm2, fun k y hk hy => ?_⟩
      by_cases e : k = i
      · subst e
        rw [hq] at hy
        cases hy
        exact hc'
      · exact hb k y (by omega) hy
  · rintro σ H' ⟨v2, v3, rfl, sm, hb⟩
    refine k1 H' sm fun i p hp => hb i p ?_ hp
    rw [List.length_map, hS.ps.la]
    exact (List.getElem?_eq_some_iff.mp hp).1
def spFind (J Pl S : Addr) : Sp := fun vs H Q _ => ∃ (L : Lay) (s : Vbwsak.State) (n : Int), vs = [.ref L.p, .int n] ∧ SAt J Pl S H L s ∧
  (∀ H', Same H H' → (∀ (i : Nat) (p : Vbwsak.Player), s.players[i]? = some p → ¬ (p.num : Int) = n) → Q .non H') ∧
  ∀ (H' : Hp) (i : Nat) (x : Vbwsak.Player) (a : Addr), Same H H' → s.players[i]? = some x → L.as[i]? = some a → (x.num : Int) = n → (∀ (k : Nat) (y : Vbwsak.Player), k < i → s.players[k]? = some y → ¬ (y.num : Int) = n) → Q (.ref a) H'
theorem ok_find (T : Txt K mg J Pl S) : MX P w K mg base 2 S "find_player" (spFind J Pl S) := by
  refine MX.of (k := 1) T.cS T.m_Session_find_player sc_Session_find_player (fun vs H Q E h => by obtain ⟨_, _, _, rfl, _⟩ := h; rfl) fun f cdv A outer s H vs Q E hr h => ?_
  obtain ⟨L, st, n, rfl, hS, k1, k2⟩ := h
  refine ⟨_, (pss_cons (ps_set (i := 2) sc_Session_find_player.nd rfl (Or.inl rfl) (pe_mx (pv 0) (ok_place T) hr (pa_cons (pv 1) pa_nil)))
      (pss_one (ps_ret (pe_ifExp (pt_cmp (pc_isN (pv 2))) pe_non (pe_ix ix_list (pe_fld (pv 0) rfl) (pv 2) (fun _ _ => rfl)))))), ?_⟩
  refine ⟨_, rfl, L.p, L.dx, _, rfl, hS.ses, rfl, _, rfl, L, st, n, rfl, hS, fun H' sm hn => ?_, fun H' i x sm hx he hf => ?_⟩
  · exact ⟨_, rfl, _, rfl, iteT (k1 H' sm hn)⟩
  · obtain ⟨a, jl, ha, hj, _⟩ := hS.ps.player hx
    exact ⟨_, rfl, _, rfl, iteF ⟨_, rfl, L.p, S, L.dx, _, _, rfl, sm _ _ hS.ses, T.cS, T.S3, rfl, _, rfl, L.pl, _, _, _, rfl, rfl, SqL.of (sm _ _ hS.ps.lst), atI_nat (refs_at ha), k2 H' i x a sm hx ha he hf⟩⟩
/-- a list of numbers read off the players -/
def readOff (g : Vbwsak.Player → Nat) (ps : List Vbwsak.Player) : List V := intsOf (ps.map g)
def spCount (J Pl S : Addr) : Sp := fun vs H Q _ => ∃ (L : Lay) (s : Vbwsak.State), vs = [.ref L.p] ∧ SAt J Pl S H L s ∧ s.players.length ≤ 8 ∧ ∀ H', Same H H' → Q (.int (Vbwsak.jobsIn s.players : Nat)) H'
theorem ok_count (T : Txt K mg J Pl S) : MX P w K mg base 1 S "count_jobs" (spCount J Pl S) := by
  refine MX.of (k := 0) T.cS T.m_Session_count_jobs sc_Session_count_jobs (fun vs H Q E h => by obtain ⟨_, _, rfl, _⟩ := h; rfl) fun f cdv A outer s H vs Q E hr h => ?_
  obtain ⟨L, st, rfl, hS, h8, k⟩ := h
  refine ⟨_, (pss_one (ps_ret (pe_callB (cr_sum rfl) rfl T.b_sum boot_sum (pa_cons (by
      exact pe_lc rfl sc_Session_count_jobs.nd (pi_list (pe_fld (pv 0) rfl)) (own := [("player", 1)]) (te := tCB (fun xs H Q => ∃ p ys, xs = [.ref p] ∧ (SqL K H p ys ∨ SqT K H p ys) ∧ Q (.int ys.length) H) (tCons (tFld K (tVar 1) "jobs") tNil)) (blkOk_by (show blkC ["self", "player"] (defScope s_Session_count_jobs) _ _ = true by decide +kernel)) (fun _ _ _ _ _ => (pg_name (i := 1) sc_Session_count_jobs.nd rfl (Or.inl rfl))) (fun _ _ _ _ _ => pts_nil) (fun _ _ _ _ _ => by exact pe_callB call_len_seq rfl T.b_len PySem.boot_len (pa_cons (pe_fld (pv 1) rfl) pa_nil))) pa_nil)))), ?_⟩
  refine ⟨_, rfl, L.p, S, L.dx, _, _, rfl, hS.ses, T.cS, T.S3, rfl, L.pl, rfl, ⟨_, SqL.of hS.ps.lst⟩, fun D hD => lc_pure (K := K) (ys := readOff (fun p => p.jobs.length) st.players) (SqL.of hS.ps.lst) hD ?_ ?_ (fun i x y H' hx hy sm Q' hQ => ?_) fun H' sm hl => ?_⟩
  · unfold readOff intsOf
    rw [List.length_map, List.length_map, List.length_map]
    exact hS.ps.la.symm
  · rw [List.length_map, hS.ps.la, sizeLine_eq]
    omega
  · obtain ⟨a, ha, rfl⟩ := at_refs hx
    obtain ⟨jl, q, hj, hq, ⟨dx, hP⟩, cs, hcs, hJ⟩ := hS.ps.of_as ha
    have ey : y = .int (q.jobs.length : Nat) := by
      unfold readOff at hy
      obtain ⟨m, hm, rfl⟩ := at_ints hy
      rw [List.getElem?_map, hq] at hm
      rw [← Option.some.inj hm]
    subst ey
    refine ⟨_, rfl, a, Pl, dx, _, _, rfl, sm _ _ hP, T.cP, T.P2, rfl, jl, _, rfl, .inl (SqL.of (sm _ _ hcs)), ?_⟩
    rw [List.length_map, hJ.len]
    exact hQ H' (Same.refl _)
  · refine ⟨D, (st.players.map fun p => p.jobs.length).map (fun (n : Nat) => (n : Int)), rfl, SqL.of (by rw [hl]; unfold readOff; rw [ints_map]), ?_⟩
    rw [sum_ints]
    exact k H' sm
theorem sumOf_le {m : Nat} : ∀ {l : List Nat}, (∀ x ∈ l, x ≤ m) → Vbwsak.sumOf l ≤ l.length * m
  | [], _ => Nat.zero_le _
  | x :: l, h => by
    rw [sumOf_cons, List.length_cons, Nat.succ_mul]
    have h1 := h x List.mem_cons_self
    have h2 := sumOf_le (l := l) fun y hy => h y (List.mem_cons_of_mem _ hy)
    omega
/-- bound -/
def spBound (J Pl S : Addr) : Sp := fun vs H Q _ => ∃ (L : Lay) (s : Vbwsak.State) (i : Nat) (a : Addr) (q : Vbwsak.Player), vs = [.ref L.p, .ref a] ∧ SAt J Pl S H L s ∧ WF s ∧ L.as[i]? = some a ∧ s.players[i]? = some q ∧ q.jobs ≠ [] ∧ ∀ H', Same H H' → Q (.int (Vbwsak.boundOf s q : Nat)) H'
theorem bound_z {c w q W n b : Nat} (hc : 1 ≤ c) (hw : 1 ≤ w) (hq : 1 ≤ q) (hb : 20000 ≤ b) :
    ((((c : Int) + (w : Int) * (q : Int) - 1) / ((w : Int) * (q : Int)) + 2) * (q : Int) * (W : Int) + ((n : Int) * 10000 + 100 * (q : Int)) + (c : Int)) / ((b : Int) - 10000) + 1 =
      (((((c + w * q - 1) / (w * q) + 2) * q * W + n * Vbwsak.COST + 100 * q + c) / (b - Vbwsak.COST) + 1 : Nat) : Int) := by
  have e1 : (c : Int) + (w : Int) * (q : Int) - 1 = ((c + w * q - 1 : Nat) : Int) := by
    rw [Int.ofNat_sub (by omega)]
    simp
  have e2 : (b : Int) - 10000 = ((b - Vbwsak.COST : Nat) : Int) := by
    unfold Vbwsak.COST
    omega
  rw [e1, e2]
  unfold Vbwsak.COST
  generalize c + w * q - 1 = x
  generalize b - 10000 = y
  have e3 : (x : Int) / ((w : Int) * (q : Int)) = ((x / (w * q) : Nat) : Int) := by
    rw [← Int.natCast_mul]
    rfl
  rw [e3]
  generalize x / (w * q) = z
  have e4 : ((z : Int) + 2) * (q : Int) * (W : Int) + ((n : Int) * 10000 + 100 * (q : Int)) + (c : Int) = (((z + 2) * q * W + n * 10000 + 100 * q + c : Nat) : Int) := by
    rw [show ((z : Int) + 2) * (q : Int) * (W : Int) = (((z + 2) * q * W : Nat) : Int) by rw [Int.natCast_mul, Int.natCast_mul]; rfl]
    omega
  rw [e4]
  rfl
theorem ok_bound (T : Txt K mg J Pl S) : MX P w K mg base 1 S "bound_of" (spBound J Pl S) := by
  refine MX.of (k := 0) T.cS T.m_Session_bound_of sc_Session_bound_of (fun vs H Q E h => by obtain ⟨_, _, _, _, _, rfl, _⟩ := h; rfl) fun f cdv A outer s H vs Q E hr h => ?_
  obtain ⟨L, st, i, a, q, rfl, hS, hW, ha, hq, hne, k⟩ := h
  obtain ⟨j, r, hj0⟩ := List.exists_cons_of_ne_nil hne
  obtain ⟨jl, q', hj, hq', ⟨dx, hP⟩, cs, hcs, hJ⟩ := hS.ps.of_as ha
  have eq : q' = q := Option.some.inj (hq'.symm.trans hq)
  subst eq
  have hl0 : cs.length = r.length + 1 := by
    rw [hJ.len, hj0]
    rfl
  have hc0 : cs[0]? = some (cs[0]'(by omega)) := List.getElem?_eq_getElem _
  obtain ⟨dj, hjj⟩ := hJ.at_ 0 _ j hc0 (by rw [hj0]; rfl)
  have hw := hW.pw.w i q' hq
  have hjb := hW.pw.jobs i q' hq j (by rw [hj0]; exact List.mem_cons_self)
  have hqb := hW.q
  have hbb := hW.b
  have h8 := hW.n8
  have hsh : 1 * 100 ≤ q'.weight * st.quantum := Nat.mul_le_mul hw.1 hqb.1
  have hsh2 : q'.weight * st.quantum ≤ 100 * 10000 := Nat.mul_le_mul hw.2 hqb.2
  have hshz : (q'.weight : Int) * (st.quantum : Int) = ((q'.weight * st.quantum : Nat) : Int) := (Int.natCast_mul _ _).symm
  refine ⟨_, (pss_cons (ps_set (i := 2) sc_Session_bound_of.nd rfl (Or.inl rfl) (pe_fld (pe_ix ix_list (pe_fld (pv 1) rfl) pe_int (fun _ _ => rfl)) rfl))
      (pss_cons (ps_set (i := 3) sc_Session_bound_of.nd rfl (Or.inl rfl) (pe_op op_mul (pe_fld (pv 1) rfl) (pe_fld (pv 0) rfl)))
      (pss_cons (ps_set (i := 4) sc_Session_bound_of.nd rfl (Or.inl rfl) (pe_op op_add (pe_op op_fd (pe_op op_sub (pe_op op_add (pv 2) (pv 3)) pe_int) (pv 3)) pe_int))
      (pss_cons (ps_set (i := 6) sc_Session_bound_of.nd rfl (Or.inl rfl) (pe_callB (cr_sum rfl) rfl T.b_sum boot_sum (pa_cons (by
        exact pe_lc rfl sc_Session_bound_of.nd (pi_list (pe_fld (pv 0) rfl)) (own := [("each", 5)]) (te := tFld K (tVar 5) "weight") (blkOk_by (show blkC ["self", "player", "cost", "share", "rounds", "each", "weights", "saved"] (defScope s_Session_bound_of) _ _ = true by decide +kernel)) (fun _ _ _ _ _ => (pg_name (i := 5) sc_Session_bound_of.nd rfl (Or.inl rfl))) (fun _ _ _ _ _ => pts_nil) (fun _ _ _ _ _ => by exact pe_fld (pv 5) rfl)) pa_nil)))
      (pss_cons (ps_set (i := 7) sc_Session_bound_of.nd rfl (Or.inl rfl) (pe_op op_add (pe_op op_mul (pe_callB call_len_seq rfl T.b_len PySem.boot_len (pa_cons (pe_fld (pv 0) rfl) pa_nil)) (pe_g T.g_GREATEST_COST)) (pe_op op_mul (pe_g T.g_GREATEST_WEIGHT) (pe_fld (pv 0) rfl))))
      (pss_one (ps_ret (pe_op op_add (pe_op op_fd (pe_op op_add (pe_op op_add (pe_op op_mul (pe_op op_mul (pv 4) (pe_fld (pv 0) rfl)) (pv 6)) (pv 7)) (pv 2)) (pe_op op_sub (pe_fld (pv 0) rfl) (pe_g T.g_GREATEST_COST))) pe_int)))))))), ?_⟩
  refine ⟨_, rfl, a, Pl, dx, _, _, rfl, hP, T.cP, T.P2, rfl, jl, _, _, _, rfl, rfl, SqL.of hcs, atI_nat (j := 0) (refs_at hc0), _, J, dj, _, _, rfl, hjj, T.cJ, T.J2, rfl, ?_⟩
  refine ⟨_, rfl, a, Pl, dx, _, _, rfl, hP, T.cP, T.P1, rfl, _, rfl, L.p, S, L.dx, _, _, rfl, hS.ses, T.cS, T.S2, rfl, _, _, rfl, rfl, .inl ⟨by omega, by omega⟩, ?_⟩
  refine ⟨_, rfl, _, rfl, _, _, rfl, rfl, _, _, rfl, rfl, _, rfl, _, _, rfl, rfl, ⟨by rw [hshz]; omega, by rw [hshz]; omega⟩, _, _, rfl, rfl, ?_⟩
  refine ⟨_, rfl, L.p, S, L.dx, _, _, rfl, hS.ses, T.cS, T.S3, rfl, L.pl, rfl, ⟨_, SqL.of hS.ps.lst⟩, fun D hD => lc_pure (K := K) (ys := readOff (fun p => p.weight) st.players) (SqL.of hS.ps.lst) hD ?_ ?_ (fun i x y H' hx hy sm Q' hQ => ?_) fun H' sm hl => ?_⟩
  · unfold readOff intsOf
    rw [List.length_map, List.length_map, List.length_map]
    exact hS.ps.la.symm
  · rw [List.length_map, hS.ps.la, sizeLine_eq]
    omega
  · obtain ⟨a2, ha2, rfl⟩ := at_refs hx
    obtain ⟨jl2, q2, hj2, hq2, ⟨dx2, hP2⟩, cs2, hcs2, hJ2⟩ := hS.ps.of_as ha2
    have ey : y = .int (q2.weight : Nat) := by
      unfold readOff at hy
      obtain ⟨m, hm, rfl⟩ := at_ints hy
      rw [List.getElem?_map, hq2] at hm
      rw [← Option.some.inj hm]
    subst ey
    exact ⟨_, rfl, a2, Pl, dx2, _, _, rfl, sm _ _ hP2, T.cP, T.P1, rfl, hQ H' (Same.refl _)⟩
  · refine ⟨D, (st.players.map fun p => p.weight).map (fun (n : Nat) => (n : Int)), rfl, SqL.of (by rw [hl]; unfold readOff; rw [ints_map]), ?_⟩
    rw [sum_ints]
    have hSs := sm _ _ hS.ses
    refine ⟨_, rfl, L.p, S, L.dx, _, _, rfl, hSs, T.cS, T.S3, rfl, L.pl, _, rfl, .inl (SqL.of (sm _ _ hS.ps.lst)), _, _, rfl, rfl, .inr ⟨by decide, by decide⟩, _, rfl, L.p, S, L.dx, _, _, rfl, hSs, T.cS, T.S2, rfl, _, _, rfl, rfl, .inl ⟨by decide, by decide⟩, _, _, rfl, rfl, ?_⟩
    refine ⟨_, rfl, _, rfl, L.p, S, L.dx, _, _, rfl, hSs, T.cS, T.S2, rfl, _, _, rfl, rfl, .inr ⟨by omega, by omega⟩, _, rfl, _, _, rfl, rfl, ?_, _, rfl, _, _, rfl, rfl, _, rfl, _, _, rfl, rfl, _, rfl, L.p, S, L.dx, _, _, rfl, hSs, T.cS, T.S1, rfl, _, _, rfl, rfl, _, _, rfl, rfl, ⟨by omega, by omega⟩, _, _, rfl, rfl, ?_⟩
    · have hb : Vbwsak.sumOf (st.players.map fun p => p.weight) ≤ (st.players.map fun p => p.weight).length * 100 := sumOf_le fun x hx => by
        obtain ⟨p, hp, rfl⟩ := List.mem_map.mp hx
        obtain ⟨m, hm⟩ := List.mem_iff_getElem?.mp hp
        exact (hW.pw.w m p hm).2
      rw [List.length_map] at hb
      exact .inr ⟨by omega, by omega⟩
    · have e := bound_z (c := j.cost) (w := q'.weight) (q := st.quantum) (W := Vbwsak.sumOf (st.players.map fun p => p.weight)) (n := st.players.length) (b := st.budget) hjb.1 hw.1 (by omega) hbb.1
      have q1 := k H' sm
      have e2 : Vbwsak.boundOf st q' = (((j.cost + q'.weight * st.quantum - 1) / (q'.weight * st.quantum) + 2) * st.quantum * Vbwsak.sumOf (st.players.map fun p => p.weight) + st.players.length * Vbwsak.COST + 100 * st.quantum + j.cost) / (st.budget - Vbwsak.COST) + 1 := by
        unfold Vbwsak.boundOf
        rw [hj0]
      rw [e2, ← e] at q1
      rw [List.length_map, hS.ps.la]
      exact q1
end
end TS
end
section
set_option Elab.async false
set_option linter.all false
set_option maxRecDepth 100000
set_option maxHeartbeats 2000000
/-! ### players leave, jobs come and go -/
namespace TS
open PySem PySem.Spec PyProof.Rows L2 TR
theorem at_erase {α : Type} {l : List α} {i m : Nat} : (l.eraseIdx i)[m]? = l[if m < i then m else m + 1]? := by
  rw [List.getElem?_eraseIdx]
  split <;> rfl
section
variable {J Pl S : Addr} {H H' : Hp} {L : Lay} {ps : List Vbwsak.Player}
theorem PsAt.erase (h : PsAt J Pl H L ps) {i : Nat} (e : H' L.pl = some (.lst ((L.as.eraseIdx i).map V.ref))) (k : Kp [L.pl] H H') : PsAt J Pl H' { L with as := L.as.eraseIdx i, js := L.js.eraseIdx i } (ps.eraseIdx i) := by
  have kk : ∀ b o, H b = some o → b ≠ L.pl → H' b = some o := fun b o e n => k b o e (by simp [n])
  refine ⟨e, ?_, ?_, fun m a jl q ha hj hq => ?_, h.na.sublist (List.eraseIdx_sublist _ _), h.nj.sublist (List.eraseIdx_sublist _ _), fun z => h.npl ((List.eraseIdx_sublist _ _).subset z)⟩
  · rw [List.length_eraseIdx, List.length_eraseIdx, h.la]
  · rw [List.length_eraseIdx, List.length_eraseIdx, h.lj]
  · rw [at_erase] at ha hj hq
    obtain ⟨⟨dx, e1⟩, cs, e2, hc⟩ := h.at_ _ a jl q ha hj hq
    refine ⟨⟨dx, kk _ _ e1 (ne_il e1 h.lst)⟩, cs, kk _ _ e2 (fun z => h.npl (by rw [← z]; exact List.mem_of_getElem? hj)), hc.mono fun c o hm eo => ?_⟩
    obtain ⟨j, dy, e3⟩ := hc.get hm
    exact kk _ _ eo (ne_il e3 h.lst)
theorem fp_erase {i : Nat} {b : Addr} (h : b ∈ ({ L with as := L.as.eraseIdx i, js := L.js.eraseIdx i } : Lay).fp) : b ∈ L.fp := by
  unfold Lay.fp at h ⊢
  rcases List.mem_cons.mp h with z | h
  · exact List.mem_cons.mpr (.inl z)
  rcases List.mem_cons.mp h with z | h
  · exact List.mem_cons_of_mem _ (List.mem_cons.mpr (.inl z))
  refine List.mem_cons_of_mem _ (List.mem_cons_of_mem _ ?_)
  rcases List.mem_append.mp h with h | h
  · exact List.mem_append_left _ ((List.eraseIdx_sublist _ _).subset h)
  · exact List.mem_append_right _ ((List.eraseIdx_sublist _ _).subset h)
end
def removed (s : Vbwsak.State) (i : Nat) : Vbwsak.State := { s with players := s.players.eraseIdx i, at_ := if i = s.at_ then (if i < (s.players.eraseIdx i).length then i else 0) else if i < s.at_ then s.at_ - 1 else s.at_, begun := if i = s.at_ then false else s.begun }
section
variable {P : Program} {w : World} {K : PySem.W.Frag} {mg : Str → Option Value} {base : Heap} {J Pl S : Addr}
def spRemove (J Pl S : Addr) : Sp := fun vs H Q _ => ∃ (L : Lay) (s : Vbwsak.State) (i : Nat), vs = [.ref L.p, .int i] ∧ SAt J Pl S H L s ∧ i < s.players.length ∧ s.players.length ≤ 8 ∧
  ∀ (H' : Hp) (L' : Lay), L'.p = L.p → SAt J Pl S H' L' (removed s i) → Ch H H' L L' → Q .non H'
theorem ok_remove (T : Txt K mg J Pl S) : MX P w K mg base 2 S "remove_player" (spRemove J Pl S) := by
  refine MX.of (k := 1) T.cS T.m_Session_remove_player sc_Session_remove_player (fun vs H Q E h => by obtain ⟨_, _, _, rfl, _⟩ := h; rfl) fun f cdv A outer s H vs Q E hr h => ?_
  obtain ⟨L, st, i, rfl, hS, hi, h8, k⟩ := h
  have hia : i < L.as.length := by rw [hS.ps.la]; exact hi
  refine ⟨_, (pss_cons (ps_expr (pe_bm PySem.F.plainAttrs_list PySem.F.slot_list_pop PySem.F.type_list_pop mt_popAt (pe_fld (pv 0) rfl) (pa_cons (pv 1) pa_nil)))
      (pss_one (ps_if (pt_cmpR op_eq (pv 1) (pe_fld (pv 0) rfl) (nomark _)) (pss_one (ps_expr (pe_mx (pv 0) (ok_give T) hr (pa_cons (pv 1) pa_nil)))) (pss_one (ps_if (pt_cmpR op_lt (pv 1) (pe_fld (pv 0) rfl) (nomark _)) (pss_one (ps_fldaug (pv 0) pe_int in_sub)) pss_nil))))), ?_⟩
  refine ⟨_, rfl, L.p, S, L.dx, _, _, rfl, hS.ses, T.cS, T.S3, rfl, .inl ⟨rfl, _, SqL.of hS.ps.lst⟩, _, rfl, L.pl, _, (i : Int), i, _, rfl, rfl, hS.ps.lst, by omega, by omega, seqIx (by rw [List.length_map]; exact hia), refs_at (List.getElem?_eq_getElem hia), ?_⟩
  rw [erase_map]
  generalize hH1 : upd H L.pl (.lst ((L.as.eraseIdx i).map V.ref)) = H1
  have k1 : Kp [L.pl] H H1 := by rw [← hH1]; exact Kp.upd (by simp)
  have npp : L.p ≠ L.pl := ne_il (show H L.p = some _ from hS.ses) hS.ps.lst
  have e1 : H1 L.pl = some (.lst ((L.as.eraseIdx i).map V.ref)) := by rw [← hH1]; exact upd_same
  have f1 : H1 L.p = some (.ins S L.dx (sf st.seed st.budget st.quantum L.pl st.tick st.next st.at_ st.begun st.spent)) := k1 _ _ hS.ses (by simp [npp])
  have S1 : SAt J Pl S H1 { L with as := L.as.eraseIdx i, js := L.js.eraseIdx i } { st with players := st.players.eraseIdx i } := ⟨f1, hS.ps.erase e1 k1⟩
  have done : ∀ (at' : Nat) (bg : Bool), { st with players := st.players.eraseIdx i, at_ := at', begun := bg } = removed st i → Q .non (upd H1 L.p (.ins S L.dx (sf st.seed st.budget st.quantum L.pl st.tick st.next at' bg st.spent))) := fun at' bg e => by
    refine k _ { L with as := L.as.eraseIdx i, js := L.js.eraseIdx i } rfl ?_ ⟨?_, fun b hb => .inl (fp_erase hb)⟩
    · rw [← e]
      exact S1.fields (s' := { st with players := st.players.eraseIdx i, at_ := at', begun := bg }) upd_same (Kp.upd (by simp)) rfl
    · exact (k1.sub (fun x hx => by rw [List.mem_singleton.mp hx]; exact fp_pl)).trans (Kp.upd fp_p)
  have hlen : (L.as.eraseIdx i).length = (st.players.eraseIdx i).length := by rw [List.length_eraseIdx, List.length_eraseIdx, hS.ps.la]
  refine ⟨_, rfl, _, rfl, L.p, S, L.dx, _, _, rfl, f1, T.cS, T.S6, rfl, rfl, _, rfl, ite2 (fun hc => ?_) fun hc => ?_⟩
  · have hc' : i = st.at_ := by
      have := of_decide_eq_true hc
      injection this with this
      omega
    refine ⟨_, rfl, L.p, L.dx, _, rfl, f1, rfl, _, rfl, L.p, L.dx, L.pl, _, _, _, _, _, _, _, _, _, i, rfl, f1, e1, ?_⟩
    rw [List.length_map, hlen]
    refine done _ _ ?_
    unfold removed
    rw [if_pos hc', if_pos hc']
  · have hc' : ¬ i = st.at_ := fun z => hc (decide_eq_true (by rw [z]))
    refine ⟨_, rfl, _, rfl, L.p, S, L.dx, _, _, rfl, f1, T.cS, T.S6, rfl, _, _, rfl, rfl, _, rfl, ite2 (fun hd => ?_) fun hd => ?_⟩
    · have hd' : i < st.at_ := by
        have := of_decide_eq_true hd
        omega
      refine ⟨_, rfl, L.p, S, L.dx, _, _, rfl, f1, T.cS, T.S6, rfl, _, _, rfl, rfl, _, _, f1, few rfl, ?_⟩
      have e2 : (st.at_ : Int) - 1 = ((st.at_ - 1 : Nat) : Int) := by omega
      show Q .non (upd H1 L.p (.ins S L.dx (sf st.seed st.budget st.quantum L.pl st.tick st.next ((st.at_ : Int) - 1) st.begun st.spent)))
      rw [e2]
      refine done _ _ ?_
      unfold removed
      rw [if_neg hc', if_neg hc', if_pos hd']
    · have hd' : ¬ i < st.at_ := fun z => hd (decide_eq_true (by omega))
      have q := done st.at_ st.begun (by unfold removed; rw [if_neg hc', if_neg hc', if_neg hd'])
      rw [upd_id f1] at q
      exact q
def added (s : Vbwsak.State) (i : Nat) (q : Vbwsak.Player) (t c d : Nat) : Vbwsak.State := { s with players := s.players.set i { q with jobs := q.jobs ++ [{ num := s.next, thing := t, cost := c, sides := d }] }, next := s.next + 1 }
def spAdd (J Pl S : Addr) : Sp := fun vs H Q _ => ∃ (L : Lay) (s : Vbwsak.State) (i : Nat) (a : Addr) (q : Vbwsak.Player) (t c d : Nat), vs = [.ref L.p, .ref a, .int t, .int c, .int d] ∧ SAt J Pl S H L s ∧ L.as[i]? = some a ∧ s.players[i]? = some q ∧ q.jobs.length < 64 ∧
  ∀ (H' : Hp) (x : Addr), SAt J Pl S H' L (added s i q t c d) → Kp L.fp H H' → JAt J H' x { num := s.next, thing := t, cost := c, sides := d } → Q (.ref x) H'
theorem ok_add (T : Txt K mg J Pl S) : MX P w K mg base 3 S "add_job" (spAdd J Pl S) := by
  refine MX.of (k := 2) T.cS T.m_Session_add_job sc_Session_add_job (fun vs H Q E h => by obtain ⟨_, _, _, _, _, _, _, _, rfl, _⟩ := h; rfl) fun f cdv A outer s H vs Q E hr h => ?_
  obtain ⟨L, st, i, a, q, t, c, d, rfl, hS, ha, hq, h64, k⟩ := h
  obtain ⟨jl, q', hj, hq', ⟨dp, hP⟩, cs, hcs, hJ⟩ := hS.ps.of_as ha
  have eq : q' = q := Option.some.inj (hq'.symm.trans hq)
  subst eq
  refine ⟨_, (pss_cons (ps_set (i := 5) sc_Session_add_job.nd rfl (Or.inl rfl) (pe_kx (ok_Job T) hr T.mJ (pa_cons (pe_fld (pv 0) rfl) (pa_cons (pv 2) (pa_cons (pv 3) (pa_cons (pv 4) pa_nil))))))
      (pss_cons (ps_expr (pe_bm PySem.F.plainAttrs_list PySem.F.slot_list_append PySem.F.type_list_append mt_append (pe_fld (pv 1) rfl) (pa_cons (pv 5) pa_nil)))
      (pss_cons (ps_fldaug (pv 0) pe_int in_add)
      (pss_one (ps_ret (pv 5)))))), ?_⟩
  refine ⟨_, rfl, L.p, S, L.dx, _, _, rfl, hS.ses, T.cS, T.S5, rfl, _, rfl, _, rfl, _, rfl, fun x dx hx hdx ndx => ⟨x, dx, _, _, _, _, rfl, upd_same, rfl, ?_⟩⟩
  rw [upd_upd]
  generalize hH2 : upd (upd H dx (.own x)) x (.ins J dx (jf st.next t c d)) = H2
  have s2 : Same H H2 := by
    rw [← hH2]
    exact (Same.new hdx).trans (Same.new (by rw [upd_ne (Ne.symm ndx)]; exact hx))
  have x2 : H2 x = some (.ins J dx (jf st.next t c d)) := by rw [← hH2]; exact upd_same
  have nxj : x ≠ jl := ne_il x2 (s2 _ _ hcs)
  have naj : a ≠ jl := ne_il hP hcs
  have npj : L.p ≠ jl := ne_il (show H L.p = some _ from hS.ses) hcs
  refine ⟨_, rfl, a, Pl, dp, _, _, rfl, s2 _ _ hP, T.cP, T.P2, rfl, .inl ⟨rfl, _, SqL.of (s2 _ _ hcs)⟩, _, rfl, jl, _, _, rfl, rfl, s2 _ _ hcs, ?_, ?_⟩
  · rw [List.length_map, hJ.len, sizeLine_eq]
    omega
  generalize hH3 : upd H2 jl (.lst (cs.map V.ref ++ [.ref x])) = H3
  have k3 : Kp [a, jl] H H3 := by
    rw [← hH3]
    exact (Kp.of s2).trans (Kp.upd (by simp))
  have ne3 : ∀ b o, H2 b = some o → b ≠ jl → H3 b = some o := fun b o e n => by rw [← hH3, upd_ne n]; exact e
  have P3 : PlAt J Pl H3 a jl { q' with jobs := q'.jobs ++ [{ num := st.next, thing := t, cost := c, sides := d }] } := by
    refine ⟨⟨dp, ne3 _ _ (s2 _ _ hP) naj⟩, cs ++ [x], ?_, ?_, fun m y j hy hjm => ?_⟩
    · rw [← hH3, upd_same, List.map_append]
      rfl
    · rw [List.length_append, List.length_append, hJ.len]
      rfl
    · by_cases hm : m < cs.length
      · rw [List.getElem?_append_left hm] at hy
        rw [List.getElem?_append_left (by rw [← hJ.len]; exact hm)] at hjm
        obtain ⟨dy, ey⟩ := hJ.at_ m y j hy hjm
        exact ⟨dy, ne3 _ _ (s2 _ _ ey) (ne_il ey hcs)⟩
      · rw [List.getElem?_append_right (by omega)] at hy
        rw [List.getElem?_append_right (by rw [← hJ.len]; omega), ← hJ.len] at hjm
        have hm0 : m - cs.length = 0 := by
          have := (List.getElem?_eq_some_iff.mp hy).1
          rw [List.length_singleton] at this
          omega
        rw [hm0] at hy hjm
        have e1 : x = y := Option.some.inj hy
        have e2 := Option.some.inj hjm
        subst e1 e2
        exact ⟨dx, ne3 _ _ x2 nxj⟩
  have S3 := hS.set ha hj hq P3 k3
  have f3 : H3 L.p = some (.ins S L.dx (sf st.seed st.budget st.quantum L.pl st.tick st.next st.at_ st.begun st.spent)) := S3.ses
  refine ⟨_, rfl, L.p, S, L.dx, _, _, rfl, f3, T.cS, T.S5, rfl, _, _, rfl, rfl, _, _, f3, few rfl, ?_⟩
  have S4 := S3.fields (H' := upd H3 L.p (.ins S L.dx (sf st.seed st.budget st.quantum L.pl st.tick ((st.next + 1 : Nat) : Int) st.at_ st.begun st.spent))) (s' := added st i q' t c d) upd_same (Kp.upd (by simp)) rfl
  have npx : x ≠ L.p := ne_len (ne3 _ _ x2 nxj) f3 (by show (4 : Nat) ≠ 9; decide)
  refine ⟨_, rfl, k _ x S4 ?_ ⟨dx, ?_⟩⟩
  · exact (k3.sub (by
      intro b hb
      have hb' : b = a ∨ b = jl := by simpa using hb
      rcases hb' with rfl | rfl
      · exact fp_as ha
      · exact fp_js hj)).trans (Kp.upd fp_p)
  · rw [upd_ne npx]
    exact ne3 _ _ x2 nxj
end
end TS
end
section
set_option Elab.async false
set_option linter.all false
set_option maxRecDepth 100000
set_option maxHeartbeats 2000000
/-! ### a job dropped -/
namespace TS
open PySem PySem.Spec PyProof.Rows L2 TR
theorem first_at {α : Type} (p : α → Bool) : ∀ (l : List α), l.any p = true → ∃ (k : Nat) (x : α), l[k]? = some x ∧ p x = true ∧ ∀ (m : Nat) (y : α), m < k → l[m]? = some y → p y = false
  | [], h => by simp at h
  | a :: l, h => by
    cases e : p a with
    | true => exact ⟨0, a, rfl, e, fun m y hm => by omega⟩
    | false =>
      rw [List.any_cons, e, Bool.false_or] at h
      obtain ⟨k, x, h1, h2, h3⟩ := first_at p l h
      refine ⟨k + 1, x, h1, h2, fun m y hm hy => ?_⟩
      cases m with
      | zero => have := Option.some.inj hy; subst this; exact e
      | succ m => exact h3 m y (by omega) hy
theorem flat_ints : ∀ (l : List Nat), (intsOf l).all flatV = true
  | [] => rfl
  | x :: l => by
    show (flatV (V.int x) && (intsOf l).all flatV) = true
    rw [flat_ints l]
    rfl
theorem in_ints (n : Int) : ∀ (l : List Nat), inV (.int n) (intsOf l) = l.any fun m => (m : Int) == n
  | [] => rfl
  | x :: l => by
    have ih := in_ints n l
    unfold inV at ih ⊢
    show (((x : Int) == n) || (intsOf l).any fun y => eqV y (.int n)) = _
    rw [ih]
    rfl
section
variable {J Pl S : Addr} {H H' : Hp} {L : Lay} {s : Vbwsak.State}
theorem JsAt.erase {cs : List Addr} {l : List Vbwsak.Job} (h : JsAt J H cs l) (i : Nat) : JsAt J H (cs.eraseIdx i) (l.eraseIdx i) := by
  refine ⟨by rw [List.length_eraseIdx, List.length_eraseIdx, h.len], fun m c j hc hj => ?_⟩
  rw [at_erase] at hc hj
  exact h.at_ _ c j hc hj
/-- the heap behind take_job holds the player without that job -/
theorem taken {i k : Nat} {a jl dp : Addr} {q : Vbwsak.Player} {cs : List Addr} {sv dn : Nat} (hS : SAt J Pl S H L s) (ha : L.as[i]? = some a) (hj : L.js[i]? = some jl) (hq : s.players[i]? = some q) (hcs : H jl = some (.lst (cs.map V.ref))) (hJ : JsAt J H cs q.jobs) (hP : ∃ n w sv dn, H a = some (.ins Pl dp (pf n w jl sv dn))) :
    SAt J Pl S (upd (upd H jl (.lst ((cs.eraseIdx k).map V.ref))) a (.ins Pl dp (pf q.num q.weight jl (if (cs.eraseIdx k).isEmpty = true then 0 else (sv : Int)) dn))) L { s with players := s.players.set i { q with jobs := q.jobs.eraseIdx k, saved := if (q.jobs.eraseIdx k).isEmpty = true then 0 else sv, served := dn } } ∧
    Kp L.fp H (upd (upd H jl (.lst ((cs.eraseIdx k).map V.ref))) a (.ins Pl dp (pf q.num q.weight jl (if (cs.eraseIdx k).isEmpty = true then 0 else (sv : Int)) dn))) := by
  obtain ⟨n0, w0, sv0, dn0, hP⟩ := hP
  have naj : a ≠ jl := ne_il hP hcs
  have hl : (cs.eraseIdx k).isEmpty = (q.jobs.eraseIdx k).isEmpty := by
    have e := (hJ.erase k).len
    cases h1 : cs.eraseIdx k with
    | nil =>
      rw [h1] at e
      cases h2 : q.jobs.eraseIdx k with
      | nil => rfl
      | cons x r => rw [h2] at e; cases e
    | cons y t =>
      rw [h1] at e
      cases h2 : q.jobs.eraseIdx k with
      | nil => rw [h2] at e; cases e
      | cons x r => rfl
  refine ⟨hS.set ha hj hq ⟨⟨dp, ?_⟩, cs.eraseIdx k, ?_, (hJ.erase k).mono fun c o hm e => ?_⟩ ?_, ?_⟩
  · rw [upd_same, hl]
    congr 3
    split <;> rfl
  · rw [upd_ne (Ne.symm naj)]
    exact upd_same
  · obtain ⟨j, dy, ey⟩ := (hJ.erase k).get hm
    rw [upd_ne (ne_len ey hP (by show (4 : Nat) ≠ 5; decide)), upd_ne (ne_il ey hcs)]
    exact e
  · exact (Kp.upd (by simp)).trans (Kp.upd (by simp))
  · exact (Kp.upd (fp_js hj)).trans (Kp.upd (fp_as ha))
end
section
variable {P : Program} {w : World} {K : PySem.W.Frag} {mg : Str → Option Value} {base : Heap} {J Pl S : Addr}
def spDrop (J Pl S : Addr) : Sp := fun vs H Q _ => ∃ (L : Lay) (s : Vbwsak.State) (n : Int), vs = [.ref L.p, .int n] ∧ SAt J Pl S H L s ∧ WF s ∧
  (∀ H', Same H H' → (∀ (i : Nat) (p : Vbwsak.Player), s.players[i]? = some p → ∀ j ∈ p.jobs, ¬ (j.num : Int) = n) → Q (.bl false) H') ∧
  ∀ (H' : Hp) (i k : Nat) (x : Vbwsak.Player) (j : Vbwsak.Job), s.players[i]? = some x → x.jobs[k]? = some j → (j.num : Int) = n → SAt J Pl S H' L { s with players := s.players.set i (dropped x k) } → Kp L.fp H H' → Q (.bl true) H'
theorem jobs_le {s : Vbwsak.State} (h : WF s) {i : Nat} {q : Vbwsak.Player} (hq : s.players[i]? = some q) : q.jobs.length ≤ 64 := by
  have h1 := jobsIn_set { q with jobs := [] } hq
  have h2 := h.j64
  have h3 : ({ q with jobs := [] } : Vbwsak.Player).jobs.length = 0 := rfl
  omega
theorem ok_drop (T : Txt K mg J Pl S) : MX P w K mg base 2 S "drop_job" (spDrop J Pl S) := by
  refine MX.of (k := 1) T.cS T.m_Session_drop_job sc_Session_drop_job (fun vs H Q E h => by obtain ⟨_, _, _, rfl, _⟩ := h; rfl) fun f cdv A outer s H vs Q E hr h => ?_
  obtain ⟨L, st, n, rfl, hS, hW, k1, k2⟩ := h
  refine ⟨_, (pss_cons (ps_for PassesOwn.never rfl (pi_list (pe_fld (pv 0) rfl)) (pg_name (i := 2) sc_Session_drop_job.nd rfl (Or.inl rfl))
      (pss_cons (by
        exact ps_setLc (i := 4) rfl sc_Session_drop_job.nd rfl rfl (sw_true rfl rfl rfl rfl) (pi_list (pe_fld (pv 2) rfl)) (own := [("job", 3)]) (te := tFld K (tVar 3) "number") (blkOk_by (show blkC ["self", "number", "player", "job", "numbers"] (defScope s_Session_drop_job) _ _ = true by decide +kernel)) (fun _ _ _ _ _ => (pg_name (i := 3) sc_Session_drop_job.nd rfl (Or.inl rfl))) (fun _ _ _ _ _ => pts_nil) (fun _ _ _ _ _ => by exact pe_fld (pv 3) rfl))
      (pss_one (ps_if (pt_cmpR op_in_seq (pv 1) (pv 4) (by with_unfolding_all rfl)) (pss_cons (ps_expr (pe_mx (pv 2) (ok_take T) hr (pa_cons (pe_bm PySem.F.plainAttrs_list PySem.F.slot_list_index PySem.F.type_list_index mt_index (pv 4) (pa_cons (pv 1) pa_nil)) pa_nil)))
      (pss_one (ps_ret pe_bl))) pss_nil))))
      (pss_one (ps_ret pe_bl))), ?_⟩
  refine ⟨_, rfl, L.p, S, L.dx, _, _, rfl, hS.ses, T.cS, T.S3, rfl, L.pl, rfl, ⟨_, SqL.of hS.ps.lst⟩, for_list (K := K) (a := L.pl) (xs := L.as.map V.ref) (fun i σ H' => ∃ v2 v4 : Option V, σ = [some (.ref L.p), some (.int n), v2, none, v4] ∧ Same H H' ∧ ∀ (k : Nat) (y : Vbwsak.Player), k < i → st.players[k]? = some y → ∀ j ∈ y.jobs, ¬ (j.num : Int) = n) ⟨none, none, rfl, Same.refl _, fun k y hk => by omega⟩ (fun i σ H' _ ⟨_, _, _, sm, _⟩ => sm.seq (SqL.of hS.ps.lst)) ?_ ?_⟩
  · rintro i x σ H1 hi ⟨v2, v4, rfl, sm, hb⟩
    obtain ⟨a, ha, rfl⟩ := at_refs hi
    obtain ⟨jl, q, hj, hq, ⟨dp, hP⟩, cs, hcs, hJ⟩ := hS.ps.of_as ha
    have h64 := jobs_le hW hq
    refine ⟨_, rfl, a, Pl, dp, _, _, rfl, sm _ _ hP, T.cP, T.P2, rfl, jl, rfl, ⟨_, SqL.of (sm _ _ hcs)⟩, fun D hD => lc_pure (K := K) (ys := intsOf (q.jobs.map (·.num))) (SqL.of (sm _ _ hcs)) hD ?_ ?_ (fun m x y H' hx hy s1 Q' hQ => ?_) fun H' s1 hl => ?_⟩
    · unfold intsOf
      rw [List.length_map, List.length_map, List.length_map]
      exact hJ.len.symm
    · rw [List.length_map, hJ.len, sizeLine_eq]
      omega
    · obtain ⟨c, hc, rfl⟩ := at_refs hx
      obtain ⟨b, hb, rfl⟩ := at_ints hy
      rw [List.getElem?_map] at hb
      cases ej : q.jobs[m]? with
      | none => rw [ej] at hb; cases hb
      | some j =>
        rw [ej] at hb
        have e : j.num = b := Option.some.inj hb
        subst e
        obtain ⟨dy, ey⟩ := hJ.at_ m c j hc ej
        exact ⟨_, rfl, c, J, dy, _, _, rfl, s1 _ _ (sm _ _ ey), T.cJ, T.J0, rfl, hQ H' (Same.refl _)⟩
    · have s2 := sm.trans s1
      refine ⟨_, rfl, _, rfl, D, _, rfl, .inl (SqL.of hl), rfl, flat_ints _, _, rfl, ?_⟩
      rw [show (if false = true then !inV (V.int n) (intsOf (q.jobs.map (·.num))) else inV (V.int n) (intsOf (q.jobs.map (·.num)))) = ((q.jobs.map (·.num) : List Nat).any fun (m : Nat) => (m : Int) == n) from in_ints n _]
      refine ite2 (fun hc => ?_) fun hc => ?_
      · obtain ⟨m, b, hb1, hb2, hb3⟩ := first_at _ _ hc
        have hb1' := hb1
        rw [List.getElem?_map] at hb1'
        cases ej : q.jobs[m]? with
        | none => rw [ej] at hb1'; cases hb1'
        | some j =>
          rw [ej] at hb1'
          have e : j.num = b := Option.some.inj hb1'
          subst e
          have hn : (j.num : Int) = n := eq_of_beq hb2
          have hmc : m < cs.length := by rw [hJ.len]; exact (List.getElem?_eq_some_iff.mp ej).1
          have hJ2 : JsAt J H' cs q.jobs := hJ.mono fun c o _ e => s2 _ _ e
          refine ⟨_, rfl, a, dp, _, rfl, s2 _ _ hP, rfl, _, rfl, .inl ⟨rfl, _, SqL.of hl⟩, _, rfl, D, _, _, m, .int (j.num : Nat), rfl, rfl, SqL.of hl, rfl, flat_ints _, ?_, hb2, fun m' z hm' hz => ?_, a, dp, jl, _, _, _, _, cs, m, _, rfl, s2 _ _ hP, s2 _ _ hcs, by rw [hJ.len]; exact h64, List.getElem?_eq_getElem hmc, ?_⟩
          · unfold intsOf
            rw [List.getElem?_map, hb1]
            rfl
          · obtain ⟨b', hb', rfl⟩ := at_ints hz
            exact hb3 m' b' hm' hb'
          · obtain ⟨S1, kp⟩ := taken (k := m) (sv := q.saved) (dn := q.served) (hS.same s2) ha hj hq (s2 _ _ hcs) hJ2 ⟨_, _, _, _, s2 _ _ hP⟩
            exact k2 _ i m q j hq ej hn S1 ((Kp.of s2).trans kp)
      · refine ⟨_, _, rfl, s2, fun k y hk hy => ?_⟩
        by_cases e : k = i
        · subst e
          rw [hq] at hy
          cases hy
          intro j hj' z
          exact hc (List.any_eq_true.mpr ⟨j.num, List.mem_map.mpr ⟨j, hj', rfl⟩, beq_iff_eq.mpr z⟩)
        · exact hb k y (by omega) hy
  · rintro σ H' ⟨v2, v4, rfl, sm, hb⟩
    refine k1 H' sm fun i p hp => hb i p ?_ hp
    rw [List.length_map, hS.ps.la]
    exact (List.getElem?_eq_some_iff.mp hp).1
end
end TS
end
section
set_option Elab.async false
set_option linter.all false
set_option maxRecDepth 100000
set_option maxHeartbeats 2000000
/-! ### copies -/
namespace TS
open PySem PySem.Spec PyProof.Rows L2 TR
theorem Same.upd {H H' : Hp} {x : Addr} {o : HO} (s : Same H H') (hx : H x = none) : Same H (L2.upd H' x o) := fun b u e => by rw [upd_ne (ne_of_none e hx)]; exact s b u e
section
variable {J Pl S : Addr} {H H' : Hp}
theorem PlAt.upd_new {a jl x : Addr} {o : HO} {q : Vbwsak.Player} (h : PlAt J Pl H a jl q) (n1 : x ≠ a) (n2 : x ≠ jl) (n3 : ∀ dx fs, H x ≠ some (.ins J dx fs)) : PlAt J Pl (L2.upd H x o) a jl q := by
  obtain ⟨⟨dx, e⟩, cs, e2, hc⟩ := h
  refine ⟨⟨dx, by rw [upd_ne (Ne.symm n1)]; exact e⟩, cs, by rw [upd_ne (Ne.symm n2)]; exact e2, hc.mono fun c u hm eu => ?_⟩
  obtain ⟨j, dy, ey⟩ := hc.get hm
  rw [upd_ne (fun z => n3 dy _ (by rw [← z]; exact ey))]
  exact eu
theorem PlAt.same {a jl : Addr} {q : Vbwsak.Player} (h : PlAt J Pl H a jl q) (s : Same H H') : PlAt J Pl H' a jl q := by
  obtain ⟨⟨dx, e⟩, cs, e2, hc⟩ := h
  exact ⟨⟨dx, s _ _ e⟩, cs, s _ _ e2, hc.mono fun c u _ eu => s _ _ eu⟩
end
section
variable {P : Program} {w : World} {K : PySem.W.Frag} {mg : Str → Option Value} {base : Heap} {J Pl S : Addr}
def spPCopy (J Pl : Addr) : Sp := fun vs H Q _ => ∃ (a jl : Addr) (q : Vbwsak.Player), vs = [.ref a] ∧ PlAt J Pl H a jl q ∧ ∀ (H' : Hp) (x l : Addr), Same H H' → H x = none → H l = none → PlAt J Pl H' x l q → Q (.ref x) H'
theorem ok_pcopy (T : Txt K mg J Pl S) : MX P w K mg base 3 Pl "copied" (spPCopy J Pl) := by
  refine MX.of (k := 2) T.cP T.m_Player_copied sc_Player_copied (fun vs H Q E h => by obtain ⟨_, _, _, rfl, _⟩ := h; rfl) fun f cdv A outer s H vs Q E hr h => ?_
  obtain ⟨a, jl, q, rfl, ⟨⟨dp, hP⟩, cs, hcs, hJ⟩, k⟩ := h
  refine ⟨_, (pss_cons (ps_set (i := 1) sc_Player_copied.nd rfl (Or.inl rfl) (pe_kx (ok_Player T) hr T.mP (pa_cons (pe_fld (pv 0) rfl) (pa_cons (pe_fld (pv 0) rfl) pa_nil))))
      (pss_cons (ps_fld (pv 1) (pe_callTy call_list_of rfl T.b_list boot_list (pa_cons (pe_fld (pv 0) rfl) pa_nil)) rfl)
      (pss_cons (ps_fld (pv 1) (pe_fld (pv 0) rfl) rfl)
      (pss_cons (ps_fld (pv 1) (pe_fld (pv 0) rfl) rfl)
      (pss_one (ps_ret (pv 1))))))), ?_⟩
  refine ⟨_, rfl, a, Pl, dp, _, _, rfl, hP, T.cP, T.P0, rfl, _, rfl, a, Pl, dp, _, _, rfl, hP, T.cP, T.P1, rfl, fun x dx hx hdx ndx => ⟨x, dx, _, _, rfl, upd_same, fun jl0 hjl0 => ⟨rfl, ?_⟩⟩⟩
  generalize hH1 : upd (upd (upd (upd H dx (.own x)) x (.ins Pl dx [])) jl0 (.lst [])) x (.ins Pl dx (pf q.num q.weight jl0 0 0)) = H1
  have s1 : Same H H1 := by
    rw [← hH1]
    refine Same.upd (Same.trans (Same.upd (Same.new hdx) hx) (Same.new hjl0)) hx
  have x1 : H1 x = some (.ins Pl dx (pf q.num q.weight jl0 0 0)) := by rw [← hH1]; exact upd_same
  have nax : a ≠ x := ne_of_none hP hx
  refine ⟨_, rfl, a, Pl, dp, _, _, rfl, s1 _ _ hP, T.cP, T.P2, rfl, jl, _, rfl, .inl (SqL.of (s1 _ _ hcs)), fun l hl => ?_⟩
  have nxl : x ≠ l := ne_of_none x1 hl
  have nal : a ≠ l := ne_of_none (s1 _ _ hP) hl
  refine ⟨_, rfl, x, Pl, dx, _, rfl, (by rw [upd_ne nxl]; exact x1), T.cP, T.P2, few rfl, ?_⟩
  refine ⟨_, rfl, a, Pl, dp, _, _, rfl, (by rw [upd_ne nax, upd_ne nal]; exact s1 _ _ hP), T.cP, T.P3, rfl, _, rfl, x, Pl, dx, _, rfl, upd_same, T.cP, T.P3, few rfl, ?_⟩
  refine ⟨_, rfl, a, Pl, dp, _, _, rfl, (by rw [upd_ne nax, upd_ne nax, upd_ne nal]; exact s1 _ _ hP), T.cP, T.P4, rfl, _, rfl, x, Pl, dx, _, rfl, upd_same, T.cP, T.P4, few rfl, ?_⟩
  rw [upd_upd, upd_upd]
  refine ⟨_, rfl, k _ x l (Same.upd (s1.trans (Same.new hl)) hx) hx (s1.free hl) ⟨⟨dx, upd_same⟩, cs, ?_, hJ.mono fun c o hm e => ?_⟩⟩
  · rw [upd_ne (Ne.symm nxl)]
    exact upd_same
  · exact (Same.upd (s1.trans (Same.new hl)) hx) _ _ e
def spSCopy (J Pl S : Addr) : Sp := fun vs H Q _ => ∃ (L : Lay) (s : Vbwsak.State), vs = [.ref L.p] ∧ SAt J Pl S H L s ∧ s.players.length ≤ 8 ∧ ∀ (H' : Hp) (L' : Lay), Same H H' → SAt J Pl S H' L' s → (∀ b ∈ L'.fp, H b = none) → Q (.ref L'.p) H'
/-- so many players copied -/
structure Cop (J Pl : Addr) (H H2 H' : Hp) (D : Addr) (ps : List Vbwsak.Player) (i : Nat) (as js : List Addr) : Prop where
  la : as.length = i
  lj : js.length = i
  sm : Same H2 H'
  lst : H' D = some (.lst (as.map V.ref))
  at_ : ∀ (m : Nat) (a jl : Addr) (q : Vbwsak.Player), as[m]? = some a → js[m]? = some jl → ps[m]? = some q → PlAt J Pl H' a jl q
  na : as.Nodup
  nj : js.Nodup
  nD : D ∉ js
  fa : ∀ b ∈ as, H b = none
  fj : ∀ b ∈ js, H b = none
theorem nodup_snoc {α : Type} {l : List α} {x : α} (h : l.Nodup) (hx : x ∉ l) : (l ++ [x]).Nodup := by
  refine List.nodup_append.mpr ⟨h, List.nodup_cons.mpr ⟨by simp, List.nodup_nil⟩, fun a ha b hb z => hx ?_⟩
  have : b = x := by simpa using hb
  rw [← this, ← z]
  exact ha
theorem at_snoc {α : Type} {l : List α} {x y : α} {m : Nat} (h : (l ++ [x])[m]? = some y) : (m < l.length ∧ l[m]? = some y) ∨ (m = l.length ∧ y = x) := by
  by_cases e : m < l.length
  · rw [List.getElem?_append_left e] at h
    exact .inl ⟨e, h⟩
  · rw [List.getElem?_append_right (by omega)] at h
    have h0 := (List.getElem?_eq_some_iff.mp h).1
    rw [List.length_singleton] at h0
    have hm : m - l.length = 0 := by omega
    rw [hm] at h
    exact .inr ⟨by omega, (Option.some.inj h).symm⟩
theorem Cop.step {H H2 H' H4 : Hp} {D x l : Addr} {ps : List Vbwsak.Player} {i : Nat} {as js : List Addr} {q : Vbwsak.Player} (c : Cop J Pl H H2 H' D ps i as js) (hi : i < ps.length) (hq : ps[i]? = some q) (hD : H2 D = none) (s4 : Same H' H4) (hx : H' x = none) (hl : H' l = none) (hH : Same H H') (hp : PlAt J Pl H4 x l q) :
    Cop J Pl H H2 (upd H4 D (.lst (as.map V.ref ++ [.ref x]))) D ps (i + 1) (as ++ [x]) (js ++ [l]) := by
  have nx : x ∉ as := fun z => by
    obtain ⟨m, hm⟩ := List.mem_iff_getElem?.mp z
    have lt := (List.getElem?_eq_some_iff.mp hm).1
    have h1 : js[m]? = some (js[m]'(by rw [c.lj, ← c.la]; exact lt)) := List.getElem?_eq_getElem _
    have h2 : ps[m]? = some (ps[m]'(by have := c.la; omega)) := List.getElem?_eq_getElem _
    obtain ⟨⟨dx, e⟩, _⟩ := c.at_ m x _ _ hm h1 h2
    rw [hx] at e
    cases e
  have nl : l ∉ js := fun z => by
    obtain ⟨m, hm⟩ := List.mem_iff_getElem?.mp z
    have lt := (List.getElem?_eq_some_iff.mp hm).1
    have h1 : as[m]? = some (as[m]'(by rw [c.la, ← c.lj]; exact lt)) := List.getElem?_eq_getElem _
    have h2 : ps[m]? = some (ps[m]'(by have := c.lj; omega)) := List.getElem?_eq_getElem _
    obtain ⟨_, cs, e, _⟩ := c.at_ m _ l _ h1 hm h2
    rw [hl] at e
    cases e
  have nDl : D ≠ l := ne_of_none c.lst hl
  have D4 : H4 D = some (.lst (as.map V.ref)) := s4 _ _ c.lst
  have nDJ : ∀ dx fs, H4 D ≠ some (.ins J dx fs) := fun dx fs z => by rw [D4] at z; cases z
  refine ⟨by rw [List.length_append, c.la]; rfl, by rw [List.length_append, c.lj]; rfl, fun b o e => ?_, ?_, fun m a jl r ha hj hr => ?_, nodup_snoc c.na nx, nodup_snoc c.nj nl, ?_, ?_, ?_⟩
  · rw [upd_ne (ne_of_none e hD)]
    exact s4 _ _ (c.sm _ _ e)
  · rw [upd_same, List.map_append]
    rfl
  · rcases at_snoc ha with ⟨lt, ha'⟩ | ⟨em, ea⟩
    · rcases at_snoc hj with ⟨lt2, hj'⟩ | ⟨em2, _⟩
      · have p4 := (c.at_ m a jl r ha' hj' hr).same s4
        refine p4.upd_new ?_ (fun z => c.nD (by rw [z]; exact List.mem_of_getElem? hj')) nDJ
        obtain ⟨⟨dx, e⟩, _⟩ := p4
        exact fun z => ne_il e D4 z.symm
      · have := c.la; have := c.lj; omega
    · rcases at_snoc hj with ⟨lt2, _⟩ | ⟨em2, ej⟩
      · have := c.la; have := c.lj; omega
      · subst ea ej
        have e1 : m = i := by have := c.la; omega
        subst e1
        have e2 : r = q := Option.some.inj (hr.symm.trans hq)
        subst e2
        refine hp.upd_new ?_ nDl nDJ
        obtain ⟨⟨dx, e⟩, _⟩ := hp
        exact fun z => ne_il e D4 z.symm
  · intro z
    rcases List.mem_append.mp z with z | z
    · exact c.nD z
    · exact nDl (by simpa using z)
  · intro b hb
    rcases List.mem_append.mp hb with z | z
    · exact c.fa b z
    · have : b = x := by simpa using z
      rw [this]
      exact hH.free hx
  · intro b hb
    rcases List.mem_append.mp hb with z | z
    · exact c.fj b z
    · have : b = l := by simpa using z
      rw [this]
      exact hH.free hl
theorem ok_scopy (T : Txt K mg J Pl S) : MX P w K mg base 4 S "copied" (spSCopy J Pl S) := by
  refine MX.of (k := 3) T.cS T.m_Session_copied sc_Session_copied (fun vs H Q E h => by obtain ⟨_, _, rfl, _⟩ := h; rfl) fun f cdv A outer s H vs Q E hr h => ?_
  obtain ⟨L, st, rfl, hS, h8, k⟩ := h
  refine ⟨_, (pss_cons (ps_set (i := 1) sc_Session_copied.nd rfl (Or.inl rfl) (pe_kx0 (ok_Session T) hr T.mS))
      (pss_cons (ps_expr (pe_mx (pv 1) (ok_begin T) (hr.mono (by decide)) (pa_cons (pe_fld (pv 0) rfl) (pa_cons (pe_fld (pv 0) rfl) (pa_cons (pe_fld (pv 0) rfl) pa_nil)))))
      (pss_cons (ps_fld (pv 1) (by
        exact pe_lc rfl sc_Session_copied.nd (pi_list (pe_fld (pv 0) rfl)) (own := [("player", 2)]) (te := tMx Pl "copied" (spPCopy J Pl) (tVar 2) tNil) (blkOk_by (show blkC ["self", "other", "player"] (defScope s_Session_copied) _ _ = true by decide +kernel)) (fun _ _ _ _ _ => (pg_name (i := 2) sc_Session_copied.nd rfl (Or.inl rfl))) (fun _ _ _ _ _ => pts_nil) (fun _ _ _ _ _ => by exact pe_mx0 (pv 2) (ok_pcopy T) hr)) rfl)
      (pss_cons (ps_fld (pv 1) (pe_fld (pv 0) rfl) rfl)
      (pss_cons (ps_fld (pv 1) (pe_fld (pv 0) rfl) rfl)
      (pss_cons (ps_fld (pv 1) (pe_fld (pv 0) rfl) rfl)
      (pss_cons (ps_fld (pv 1) (pe_fld (pv 0) rfl) rfl)
      (pss_cons (ps_fld (pv 1) (pe_fld (pv 0) rfl) rfl)
      (pss_one (ps_ret (pv 1))))))))))), ?_⟩
  refine fun x dx hx hdx ndx => ⟨x, dx, rfl, upd_same, fun pl0 hpl0 => ⟨rfl, ?_⟩⟩
  generalize hH1 : upd (upd (upd (upd H dx (.own x)) x (.ins S dx [])) pl0 (.lst [])) x (.ins S dx (sf 0 20000 100 pl0 0 1 0 false 0)) = H1
  have s1 : Same H H1 := by
    rw [← hH1]
    exact Same.upd (Same.trans (Same.upd (Same.new hdx) hx) (Same.new hpl0)) hx
  have x1 : H1 x = some (.ins S dx (sf 0 20000 100 pl0 0 1 0 false 0)) := by rw [← hH1]; exact upd_same
  have f0 : H L.p = some (.ins S L.dx (sf st.seed st.budget st.quantum L.pl st.tick st.next st.at_ st.begun st.spent)) := hS.ses
  have npx : L.p ≠ x := ne_of_none f0 hx
  have f1 := s1 _ _ f0
  refine ⟨_, rfl, x, dx, _, rfl, x1, rfl, _, rfl, L.p, S, L.dx, _, _, rfl, f1, T.cS, T.S0, rfl, _, rfl, L.p, S, L.dx, _, _, rfl, f1, T.cS, T.S1, rfl, _, rfl, L.p, S, L.dx, _, _, rfl, f1, T.cS, T.S2, rfl, x, dx, _, _, _, _, rfl, x1, .inr ⟨_, _, _, _, _, _, _, _, _, rfl⟩, fun pl1 hpl1 => ?_⟩
  generalize hH2 : upd (upd H1 pl1 (.lst [])) x (.ins S dx (sf st.seed st.budget st.quantum pl1 0 1 0 false 0)) = H2
  have s2 : Same H H2 := by
    rw [← hH2]
    exact Same.upd (s1.trans (Same.new hpl1)) hx
  have x2 : H2 x = some (.ins S dx (sf st.seed st.budget st.quantum pl1 0 1 0 false 0)) := by rw [← hH2]; exact upd_same
  refine ⟨_, rfl, L.p, S, L.dx, _, _, rfl, s2 _ _ f0, T.cS, T.S3, rfl, L.pl, rfl, ⟨_, SqL.of (s2 _ _ hS.ps.lst)⟩, fun D hD => lc_list (K := K) (a := L.pl) (xs := L.as.map V.ref) (fun i H' => ∃ as js, Cop J Pl H H2 H' D st.players i as js) ⟨[], [], rfl, rfl, Same.new hD, upd_same, fun m a jl q h => by simp at h, List.nodup_nil, List.nodup_nil, by simp, by simp, by simp⟩ (fun i H' _ ⟨_, _, c⟩ => c.sm.seq (SqL.of (s2 _ _ hS.ps.lst))) ?_ ?_⟩
  · rintro i y H' hi ⟨as, js, c⟩
    obtain ⟨a, ha, rfl⟩ := at_refs hi
    obtain ⟨jl, q, hj, hq, hp⟩ := hS.ps.of_as ha
    have sH' : Same H H' := s2.trans c.sm
    have hp' := hp.same sH'
    have lt : i < st.players.length := (List.getElem?_eq_some_iff.mp hq).1
    obtain ⟨⟨dp, hP⟩, _⟩ := hp'
    refine ⟨rfl, ⟨_, rfl, a, dp, _, rfl, hP, rfl, a, jl, q, rfl, hp.same sH', fun H4 x' l' s4 hx' hl' hpl => ⟨_, s4 _ _ c.lst, ?_, _, _, c.step lt hq hD s4 hx' hl' sH' hpl⟩⟩⟩
    rw [List.length_map, c.la, sizeLine_eq]
    omega
  · rintro H' ⟨as, js, c⟩
    have sH' : Same H H' := s2.trans c.sm
    have x3 := c.sm _ _ x2
    have nDx : D ≠ x := Ne.symm (ne_of_none x2 hD)
    have hlen : (L.as.map V.ref).length = st.players.length := by rw [List.length_map, hS.ps.la]
    have g0 := sH' _ _ f0
    refine ⟨_, rfl, x, S, dx, _, rfl, x3, T.cS, T.S3, few rfl, ?_⟩
    refine ⟨_, rfl, L.p, S, L.dx, _, _, rfl, (by rw [upd_ne npx]; exact g0), T.cS, T.S4, rfl, _, rfl, x, S, dx, _, rfl, upd_same, T.cS, T.S4, few rfl, ?_⟩
    rw [upd_upd]
    refine ⟨_, rfl, L.p, S, L.dx, _, _, rfl, (by rw [upd_ne npx]; exact g0), T.cS, T.S5, rfl, _, rfl, x, S, dx, _, rfl, upd_same, T.cS, T.S5, few rfl, ?_⟩
    rw [upd_upd]
    refine ⟨_, rfl, L.p, S, L.dx, _, _, rfl, (by rw [upd_ne npx]; exact g0), T.cS, T.S6, rfl, _, rfl, x, S, dx, _, rfl, upd_same, T.cS, T.S6, few rfl, ?_⟩
    rw [upd_upd]
    refine ⟨_, rfl, L.p, S, L.dx, _, _, rfl, (by rw [upd_ne npx]; exact g0), T.cS, T.S7, rfl, _, rfl, x, S, dx, _, rfl, upd_same, T.cS, T.S7, few rfl, ?_⟩
    rw [upd_upd]
    refine ⟨_, rfl, L.p, S, L.dx, _, _, rfl, (by rw [upd_ne npx]; exact g0), T.cS, T.S8, rfl, _, rfl, x, S, dx, _, rfl, upd_same, T.cS, T.S8, few rfl, ?_⟩
    rw [upd_upd]
    refine ⟨_, rfl, k _ ⟨x, dx, D, as, js⟩ (Same.upd sH' hx) ⟨upd_same, ?_⟩ ?_⟩
    · have p0 : PsAt J Pl H' ⟨x, dx, D, as, js⟩ st.players := ⟨c.lst, by rw [c.la, hlen], by rw [c.lj, hlen], c.at_, c.na, c.nj, c.nD⟩
      refine p0.mono fun b o eb hk => ?_
      rw [upd_ne ?_]
      · exact eb
      · intro z
        subst z
        rw [x3] at eb
        rcases hk with ⟨xs, rfl⟩ | ⟨C, dy, fs, rfl, hl⟩
        · cases eb
        · injection eb with eb
          injection eb with _ _ eb
          have : fs.length = 9 := by rw [← eb]; rfl
          omega
    · intro b hb
      unfold Lay.fp at hb
      rcases List.mem_cons.mp hb with rfl | hb
      · exact hx
      rcases List.mem_cons.mp hb with rfl | hb
      · exact s2.free hD
      rcases List.mem_append.mp hb with hb | hb
      · exact c.fa b hb
      · exact c.fj b hb
end
end TS
end
section
set_option Elab.async false
set_option linter.all false
set_option maxRecDepth 100000
set_option maxHeartbeats 2000000
/-! ### a job done -/
namespace TS
open PySem PySem.Spec PyProof.Rows L2 TR
/-- the dict of draws made -/
def DRel (kvs : List (Key × V)) (draws : List (Nat × Nat)) : Prop := ∀ th : Nat, (valV kvs (Sum.inl (th : Int))).getD (.int 0) = .int (Vbwsak.drawsOf draws th : Nat)
theorem drawsOf_add (th m : Nat) : ∀ l : List (Nat × Nat), Vbwsak.drawsOf (Vbwsak.addDraw th l) m = if m = th then Vbwsak.drawsOf l th + 1 else Vbwsak.drawsOf l m
  | [] => by
    unfold Vbwsak.addDraw Vbwsak.drawsOf
    by_cases e : m = th
    · subst e; simp
    · have : ¬ th = m := fun z => e z.symm
      simp [e, this]
  | x :: r => by
    have ih := drawsOf_add th m r
    unfold Vbwsak.addDraw
    by_cases e : x.1 = th
    · rw [if_pos e]
      unfold Vbwsak.drawsOf
      by_cases e2 : m = th
      · subst e2; simp [e]
      · have : ¬ th = m := fun z => e2 z.symm
        simp [e, e2, this]
    · rw [if_neg e]
      unfold Vbwsak.drawsOf at ih ⊢
      by_cases e2 : x.1 = m
      · have e3 : ¬ m = th := fun z => e (e2.trans z)
        simp [e2, e3]
      · have e4 : (x.1 == m) = false := by simp [e2]
        have e5 : (x.1 == th) = false := by simp [e]
        rw [List.find?_cons_of_neg (by simp [e2]), List.find?_cons_of_neg (by simp [e]), List.find?_cons_of_neg (by simp [e2])]
        exact ih
theorem DRel.put {kvs : List (Key × V)} {draws : List (Nat × Nat)} (h : DRel kvs draws) (th : Nat) : DRel (putK kvs (Sum.inl (th : Int)) (.int ((Vbwsak.drawsOf draws th : Int) + 1))) (Vbwsak.addDraw th draws) := fun m => by
  rw [valV_put, drawsOf_add]
  by_cases e : m = th
  · subst e
    rw [if_pos rfl, if_pos rfl]
    rfl
  · rw [if_neg e, if_neg (fun z => e (by injection z with z; omega))]
    exact h m
section
variable {J Pl S : Addr} {H H' : Hp} {L : Lay} {s : Vbwsak.State}
/-- a dict may change -/
theorem SAt.dict (h : SAt J Pl S H L s) {d : Addr} {kvs : List (Key × V)} {o : HO} (hd : H d = some (.dK kvs)) : SAt J Pl S (upd H d o) L s := by
  have f0 : H L.p = some (.ins S L.dx (sf s.seed s.budget s.quantum L.pl s.tick s.next s.at_ s.begun s.spent)) := h.ses
  refine ⟨?_, h.ps.mono fun b u e hk => ?_⟩
  · show upd H d o L.p = _
    rw [upd_ne (fun z => by rw [z, hd] at f0; cases f0)]
    exact f0
  · rw [upd_ne (fun z => ?_)]
    · exact e
    · subst z
      rw [hd] at e
      rcases hk with ⟨xs, rfl⟩ | ⟨C, dx, fs, rfl, _⟩ <;> cases e
end
def rowVals (l : List Vbwsak.Done) : List V := (Vbwsak.doneRow l).map V.int
def didJob (q : Vbwsak.Player) (j : Vbwsak.Job) (r : List Vbwsak.Job) : Vbwsak.Player := { q with jobs := r, saved := if r.isEmpty = true then 0 else q.saved - j.cost, served := q.served + j.cost }
section
variable {P : Program} {w : World} {K : PySem.W.Frag} {mg : Str → Option Value} {base : Heap} {J Pl S : Addr}
def spDo (J Pl S : Addr) : Sp := fun vs H Q _ => ∃ (L : Lay) (s : Vbwsak.State) (i : Nat) (a d : Addr) (q : Vbwsak.Player) (j : Vbwsak.Job) (r : List Vbwsak.Job) (kvs : List (Key × V)) (draws : List (Nat × Nat)), vs = [.ref L.p, .ref a, .ref d] ∧ SAt J Pl S H L s ∧ L.as[i]? = some a ∧ s.players[i]? = some q ∧ q.jobs = j :: r ∧
  q.jobs.length ≤ 64 ∧ j.cost ≤ q.saved ∧ 1 ≤ j.sides ∧ H d = some (.dK kvs) ∧ DRel kvs draws ∧ kvs.length ≤ 64 ∧
  ∀ (H' : Hp) (l : Addr) (kvs' : List (Key × V)), SAt J Pl S H' L { s with players := s.players.set i (didJob q j r), spent := s.spent + j.cost } → H' d = some (.dK kvs') → DRel kvs' (Vbwsak.addDraw j.thing draws) → kvs'.length ≤ kvs.length + 1 → Kp (d :: L.fp) H H' →
    H' l = some (.lst (rowVals [{ job := j.num, player := q.num, drawn := Vbwsak.draw s.seed s.tick j.thing (Vbwsak.drawsOf draws j.thing) j.sides }])) → Q (.ref l) H'
theorem ok_do (T : Txt K mg J Pl S) : MX P w K mg base 5 S "do_job" (spDo J Pl S) := by
  refine MX.of (k := 4) T.cS T.m_Session_do_job sc_Session_do_job (fun vs H Q E h => by obtain ⟨_, _, _, _, _, _, _, _, _, _, rfl, _⟩ := h; rfl) fun f cdv A outer s H vs Q E hr h => ?_
  obtain ⟨L, st, i, a, d, q, j, r, kvs, draws, rfl, hS, ha, hq, hj0, h64, hsv, hsd, hd, hD, hkl, k⟩ := h
  obtain ⟨jl, q', hj, hq', ⟨dp, hP⟩, cs, hcs, hJ⟩ := hS.ps.of_as ha
  have eq : q' = q := Option.some.inj (hq'.symm.trans hq)
  subst eq
  have hcl : cs.length = r.length + 1 := by
    rw [hJ.len, hj0]
    rfl
  have hc0 : cs[0]? = some (cs[0]'(by omega)) := List.getElem?_eq_getElem _
  generalize hce : cs[0]'(by omega) = c at hc0
  obtain ⟨dj, hjj⟩ := hJ.at_ 0 c j hc0 (by rw [hj0]; rfl)
  have f0 : H L.p = some (.ins S L.dx (sf st.seed st.budget st.quantum L.pl st.tick st.next st.at_ st.begun st.spent)) := hS.ses
  have naj : a ≠ jl := ne_il hP hcs
  have nca : c ≠ a := ne_len hjj hP (by show (4 : Nat) ≠ 5; decide)
  have ncj : c ≠ jl := ne_il hjj hcs
  have ncp : c ≠ L.p := ne_len hjj f0 (by show (4 : Nat) ≠ 9; decide)
  have nda : d ≠ a := ne_of hd hP (by intro e; cases e)
  have ndj : d ≠ jl := ne_of hd hcs (by intro e; cases e)
  have ndp : d ≠ L.p := ne_of hd f0 (by intro e; cases e)
  have ndc : d ≠ c := ne_of hd hjj (by intro e; cases e)
  have nap : a ≠ L.p := ne_len hP f0 (by show (5 : Nat) ≠ 9; decide)
  have hu := hu_of hr
  refine ⟨_, (pss_cons (ps_set (i := 3) sc_Session_do_job.nd rfl (Or.inl rfl) (pe_fld (pe_ix ix_list (pe_fld (pv 1) rfl) pe_int (fun _ _ => rfl)) rfl))
      (pss_cons (ps_fldaug (pv 1) (pv 3) in_sub)
      (pss_cons (ps_set (i := 4) sc_Session_do_job.nd rfl (Or.inl rfl) (pe_mx (pv 1) (ok_take T) (hr.mono (by decide)) (pa_cons pe_int pa_nil)))
      (pss_cons (ps_fldaug (pv 1) (pv 3) in_add)
      (pss_cons (ps_fldaug (pv 0) (pv 3) in_add)
      (pss_cons (ps_set (i := 5) sc_Session_do_job.nd rfl (Or.inl rfl) (pe_dget2 hu (pv 2) (pe_fld (pv 4) rfl) pe_int ⟨rfl, rfl, rfl, rfl⟩))
      (pss_cons (ps_dput hu (pv 2) (pe_fld (pv 4) rfl) (pe_op op_add (pv 5) pe_int) rfl)
      (pss_cons (ps_set (i := 6) sc_Session_do_job.nd rfl (Or.inl rfl) (pe_fg (ok_draw T) hr (pa_cons (pe_fld (pv 0) rfl) (pa_cons (pe_fld (pv 0) rfl) (pa_cons (pe_fld (pv 4) rfl) (pa_cons (pv 5) (pa_cons (pe_fld (pv 4) rfl) pa_nil)))))))
      (pss_one (ps_ret (pe_lst (pa_cons (pe_fld (pv 4) rfl) (pa_cons (pe_fld (pv 1) rfl) (pa_cons (pv 6) pa_nil)))))))))))))), ?_⟩
  refine ⟨_, rfl, a, Pl, dp, _, _, rfl, hP, T.cP, T.P2, rfl, jl, _, _, _, rfl, rfl, SqL.of hcs, atI_nat (j := 0) (refs_at hc0), c, J, dj, _, _, rfl, hjj, T.cJ, T.J2, rfl, ?_⟩
  refine ⟨_, rfl, a, Pl, dp, _, _, rfl, hP, T.cP, T.P3, rfl, _, rfl, _, _, rfl, rfl, _, _, hP, few rfl, ?_⟩
  refine ⟨_, rfl, a, dp, _, rfl, upd_same, rfl, a, dp, jl, q'.num, q'.weight, ((q'.saved - j.cost : Nat) : Int), q'.served, cs, 0, c, rfl, ?_, ?_, by rw [hJ.len]; exact h64, hc0, ?_⟩
  · rw [show ((q'.saved - j.cost : Nat) : Int) = (q'.saved : Int) - (j.cost : Int) by omega]
    exact upd_same
  · rw [upd_ne (Ne.symm naj)]
    exact hcs
  refine ⟨_, rfl, a, Pl, dp, _, _, rfl, upd_same, T.cP, T.P4, rfl, _, rfl, _, _, rfl, rfl, _, _, upd_same, few rfl, ?_⟩
  rw [upd_upd, upd_comm naj, upd_upd]
  generalize hH3g : upd (upd H jl (.lst ((cs.eraseIdx 0).map V.ref))) a (.ins Pl dp (putF "done" (.int ((q'.served : Int) + (j.cost : Int))) (pf q'.num q'.weight jl (if (cs.eraseIdx 0).isEmpty = true then 0 else ((q'.saved - j.cost : Nat) : Int)) q'.served))) = H3
  have hH3 : upd (upd H jl (.lst ((cs.eraseIdx 0).map V.ref))) a (.ins Pl dp (pf q'.num q'.weight jl (if (cs.eraseIdx 0).isEmpty = true then 0 else ((q'.saved - j.cost : Nat) : Int)) ((q'.served + j.cost : Nat) : Int))) = H3 := hH3g
  obtain ⟨S3, k3⟩ := taken (k := 0) (sv := q'.saved - j.cost) (dn := q'.served + j.cost) hS ha hj hq hcs hJ ⟨_, _, _, _, hP⟩
  rw [hH3] at S3 k3
  have k3' : ∀ b o, H b = some o → b ≠ a → b ≠ jl → H3 b = some o := fun b o e n1 n2 => by rw [← hH3, upd_ne n1, upd_ne n2]; exact e
  have f3 : H3 L.p = some (.ins S L.dx (sf st.seed st.budget st.quantum L.pl st.tick st.next st.at_ st.begun st.spent)) := S3.ses
  refine ⟨_, rfl, L.p, S, L.dx, _, _, rfl, f3, T.cS, T.S8, rfl, _, rfl, _, _, rfl, rfl, _, _, f3, few rfl, ?_⟩
  generalize hH4g : upd H3 L.p (.ins S L.dx (putF "spent" (.int ((st.spent : Int) + (j.cost : Int))) (sf st.seed st.budget st.quantum L.pl st.tick st.next st.at_ st.begun st.spent))) = H4
  have hH4 : upd H3 L.p (.ins S L.dx (sf st.seed st.budget st.quantum L.pl st.tick st.next st.at_ st.begun ((st.spent + j.cost : Nat) : Int))) = H4 := hH4g
  have S4 : SAt J Pl S H4 L { st with players := st.players.set i (didJob q' j r), spent := st.spent + j.cost } := by
    rw [← hH4]
    have S3' : SAt J Pl S H3 L { st with players := st.players.set i (didJob q' j r) } := by
      have e : ({ q' with jobs := q'.jobs.eraseIdx 0, saved := if (q'.jobs.eraseIdx 0).isEmpty = true then 0 else q'.saved - j.cost, served := q'.served + j.cost } : Vbwsak.Player) = didJob q' j r := by
        unfold didJob
        rw [hj0]
        rfl
      rw [e] at S3
      exact S3
    exact S3'.fields (s' := { st with players := st.players.set i (didJob q' j r), spent := st.spent + j.cost }) upd_same (Kp.upd (by simp)) rfl
  have k4 : Kp L.fp H H4 := by rw [← hH4]; exact k3.trans (Kp.upd fp_p)
  have k4' : ∀ b o, H b = some o → b ≠ a → b ≠ jl → b ≠ L.p → H4 b = some o := fun b o e n1 n2 n3 => by rw [← hH4, upd_ne n3]; exact k3' b o e n1 n2
  have c4 := k4' _ _ hjj nca ncj ncp
  have d4 := k4' _ _ hd nda ndj ndp
  refine ⟨_, rfl, d, rfl, .inl ⟨_, .inl d4⟩, _, rfl, c, J, dj, _, _, rfl, c4, T.cJ, T.J1, rfl, _, DGet.k (k := Sum.inl (j.thing : Int)) d4, ?_⟩
  rw [hD j.thing]
  refine ⟨_, rfl, _, _, rfl, rfl, _, rfl, _, rfl, c, J, dj, _, _, rfl, c4, T.cJ, T.J1, rfl, d, _, rfl, DPut.k (k := Sum.inl (j.thing : Int)) d4 (by rw [sizeLine_eq]; omega), ?_⟩
  have S5 := S4.dict (o := .dK (putK kvs (Sum.inl (j.thing : Int)) (.int ((Vbwsak.drawsOf draws j.thing : Int) + 1)))) d4
  generalize hH5 : upd H4 d (.dK (putK kvs (Sum.inl (j.thing : Int)) (.int ((Vbwsak.drawsOf draws j.thing : Int) + 1)))) = H5 at S5
  have c5 : H5 c = some (.ins J dj (jf j.num j.thing j.cost j.sides)) := by rw [← hH5, upd_ne (Ne.symm ndc)]; exact c4
  have d5 : H5 d = some (.dK (putK kvs (Sum.inl (j.thing : Int)) (.int ((Vbwsak.drawsOf draws j.thing : Int) + 1)))) := by rw [← hH5]; exact upd_same
  have f5 : H5 L.p = some (.ins S L.dx (sf st.seed st.budget st.quantum L.pl st.tick st.next st.at_ st.begun ((st.spent + j.cost : Nat) : Int))) := S5.ses
  refine ⟨_, rfl, L.p, S, L.dx, _, _, rfl, f5, T.cS, T.S0, rfl, _, rfl, L.p, S, L.dx, _, _, rfl, f5, T.cS, T.S4, rfl, _, rfl, c, J, dj, _, _, rfl, c5, T.cJ, T.J1, rfl, _, rfl, _, rfl, c, J, dj, _, _, rfl, c5, T.cJ, T.J3, rfl, st.seed, st.tick, j.thing, Vbwsak.drawsOf draws j.thing, j.sides, rfl, hsd, fun H6 s6 => ?_⟩
  have S6 := S5.same s6
  have hPa : ∃ dy, H6 a = some (.ins Pl dy (pf q'.num q'.weight jl (didJob q' j r).saved (didJob q' j r).served)) := by
    have hq2 : (st.players.set i (didJob q' j r))[i]? = some (didJob q' j r) := List.getElem?_set_self (List.getElem?_eq_some_iff.mp hq).1
    obtain ⟨⟨dy, e⟩, _⟩ := S6.ps.at_ i a jl _ ha hj hq2
    exact ⟨dy, e⟩
  obtain ⟨dy, hPa⟩ := hPa
  refine ⟨_, rfl, c, J, dj, _, _, rfl, s6 _ _ c5, T.cJ, T.J0, rfl, _, rfl, a, Pl, dy, _, _, rfl, hPa, T.cP, T.P0, rfl, _, rfl, (by show 3 ≤ sizeLine; decide), fun l hl => ?_⟩
  refine k _ l _ (S6.same (Same.new hl)) (Same.new hl _ _ (s6 _ _ d5)) (hD.put j.thing) (length_putK _ _ _) ?_ upd_same
  intro b o e n
  have n1 : b ≠ d := fun z => n (by rw [z]; exact List.mem_cons_self)
  have n2 : b ∉ L.fp := fun z => n (List.mem_cons_of_mem _ z)
  refine Same.new hl _ _ (s6 _ _ ?_)
  rw [← hH5, upd_ne n1]
  exact k4 b o e n2
end
end TS
end
section
set_option Elab.async false
set_option linter.all false
set_option maxRecDepth 100000
set_option maxHeartbeats 4000000
/-! ### ticks -/
namespace TS
open PySem PySem.Spec PyProof.Rows L2 TR
/-- the session in the midst of a tick -/
def mid (s : Vbwsak.State) (t : Vbwsak.Turns) : Vbwsak.State := { s with players := t.players, at_ := t.at_, begun := t.begun, tick := s.tick + 1, spent := s.budget - t.left }
theorem rowVals_app (a b : List Vbwsak.Done) : rowVals (a ++ b) = rowVals a ++ rowVals b := by
  unfold rowVals Vbwsak.doneRow
  rw [List.flatMap_append, List.map_append]
theorem rowVals_len : ∀ (l : List Vbwsak.Done), (rowVals l).length = 3 * l.length
  | [] => rfl
  | d :: l => by
    have e : d :: l = [d] ++ l := rfl
    rw [e, rowVals_app, List.length_append, List.length_append, rowVals_len l]
    show 3 + 3 * l.length = 3 * (1 + l.length)
    omega
section
variable {J Pl S : Addr} {H H' : Hp} {L : Lay} {s : Vbwsak.State}
/-- a list that is not the session's may change -/
theorem SAt.list (h : SAt J Pl S H L s) {b : Addr} {xs : List V} {o : HO} (hb : H b = some (.lst xs)) (nb : b ∉ L.fp) : SAt J Pl S (upd H b o) L s := by
  refine ⟨?_, ?_, h.ps.la, h.ps.lj, fun i a jl q ha hj hq => ?_, h.ps.na, h.ps.nj, h.ps.npl⟩
  · show upd H b o L.p = _
    rw [upd_ne (fun z => nb (by rw [← z]; exact fp_p))]
    exact h.ses
  · rw [upd_ne (fun z => nb (by rw [← z]; exact fp_pl))]
    exact h.ps.lst
  · refine (h.ps.at_ i a jl q ha hj hq).upd_new (fun z => nb (by rw [z]; exact fp_as ha)) (fun z => nb (by rw [z]; exact fp_js hj)) fun dx fs z => ?_
    rw [hb] at z
    cases z
end
/-- what holds at each turn of the tick's loop -/
structure Lp (J Pl S : Addr) (s : Vbwsak.State) (L : Lay) (d rw : Addr) (H : Hp) (tend : Vbwsak.Turns) (f : Nat) (t : Vbwsak.Turns) (H' : Hp) : Prop where
  at_ : SAt J Pl S H' L (mid s t)
  dict : ∃ kvs, H' d = some (.dK kvs) ∧ DRel kvs t.draws ∧ kvs.length + Vbwsak.jobsIn t.players ≤ 64
  row : H' rw = some (.lst (rowVals t.done))
  sum : t.done.length + Vbwsak.jobsIn t.players ≤ 64
  kp : Kp L.fp H H'
  pw : PW t.players s.next
  pl : Vbwsak.jobsIn t.players = 0 ∨ t.at_ < t.players.length
  left : t.left ≤ s.budget
  run : Vbwsak.run s.seed (s.tick + 1) s.quantum f t = some tend
section
variable {P : Program} {w : World} {K : PySem.W.Frag} {mg : Str → Option Value} {base : Heap} {J Pl S : Addr}
def spTick (J Pl S : Addr) : Sp := fun vs H Q _ => ∃ (L : Lay) (s : Vbwsak.State), vs = [.ref L.p] ∧ SAt J Pl S H L s ∧ WF s ∧ ∀ (H' : Hp) (rw : Addr), SAt J Pl S H' L (Vbwsak.ticked s).1 → H' rw = some (.lst (rowVals (Vbwsak.ticked s).2)) → Kp L.fp H H' → Q (.ref rw) H'
theorem jobs_zero {l : List Vbwsak.Player} (h : Vbwsak.jobsIn l = 0) {i : Nat} {p : Vbwsak.Player} (hp : l[i]? = some p) : p.jobs = [] := by
  have h1 := jobsIn_set { p with jobs := [] } hp
  have h3 : ({ p with jobs := [] } : Vbwsak.Player).jobs.length = 0 := rfl
  exact List.eq_nil_of_length_eq_zero (by omega)
theorem pos_player {l : List Vbwsak.Player} (h : 0 < Vbwsak.jobsIn l) : l ≠ [] := fun z => by
  rw [z] at h
  exact absurd h (by decide)
theorem ok_tick (T : Txt K mg J Pl S) : MX P w K mg base 6 S "run_tick" (spTick J Pl S) := by
  refine MX.of (k := 5) T.cS T.m_Session_run_tick sc_Session_run_tick (fun vs H Q E h => by obtain ⟨_, _, rfl, _⟩ := h; rfl) fun f cdv A outer s H vs Q E hr h => ?_
  obtain ⟨L, st, rfl, hS, hW, k⟩ := h
  obtain ⟨tend, hrun⟩ := ticked_some hW
  have ht := ticked_of hrun
  rw [ht] at k
  have f0 : H L.p = some (.ins S L.dx (sf st.seed st.budget st.quantum L.pl st.tick st.next st.at_ st.begun st.spent)) := hS.ses
  have hr2 : Room 2 _ := hr.mono (by decide)
  refine ⟨_, (pss_cons (ps_fldaug (pv 0) pe_int in_add)
      (pss_cons (ps_fld (pv 0) pe_int rfl)
      (pss_cons (ps_set (i := 1) sc_Session_run_tick.nd rfl (Or.inl rfl) pe_dnewK)
      (pss_cons (ps_set (i := 2) sc_Session_run_tick.nd rfl (Or.inl rfl) (pe_lst pa_nil))
      (pss_cons (ps_set (i := 3) sc_Session_run_tick.nd rfl (Or.inl rfl) (pe_mx0 (pv 0) (ok_count T) (hr.mono (by decide))))
      (pss_cons (ps_while PassesOwn.never (pt_cmpR op_gt (pv 3) pe_int (nomark _))
      (pss_cons (ps_set (i := 4) sc_Session_run_tick.nd rfl (Or.inl rfl) (pe_ix ix_list (pe_fld (pv 0) rfl) (pe_fld (pv 0) rfl) (fun _ _ => rfl)))
      (pss_one (ps_if (pt_not (pt_truth (pe_fld (pv 4) rfl) (fun _ => rfl))) (pss_cons (ps_fld (pv 4) pe_int rfl)
      (pss_one (ps_expr (pe_mx0 (pv 0) (ok_pass T) hr2)))) (pss_one (ps_if (pt_not (pt_truth (pe_fld (pv 0) rfl) (fun _ => rfl))) (pss_cons (ps_fldaug (pv 4) (pe_op op_mul (pe_fld (pv 4) rfl) (pe_fld (pv 0) rfl)) in_add)
      (pss_one (ps_fld (pv 0) pe_bl rfl))) (pss_one (ps_if (pt_cmpR op_lt (pe_fld (pv 4) rfl) (pe_fld (pe_ix ix_list (pe_fld (pv 4) rfl) pe_int (fun _ _ => rfl)) rfl) (nomark _)) (pss_one (ps_expr (pe_mx0 (pv 0) (ok_pass T) hr2))) (pss_one (ps_if (pt_cmpR op_lt (pe_op op_sub (pe_fld (pv 0) rfl) (pe_fld (pv 0) rfl)) (pe_fld (pe_ix ix_list (pe_fld (pv 4) rfl) pe_int (fun _ _ => rfl)) rfl) (nomark _)) (pss_one ps_break) (pss_cons (ps_expr (pe_bm PySem.F.plainAttrs_list PySem.F.slot_list_extend PySem.F.type_list_extend mt_extend (pv 2) (pa_cons (pe_mx (pv 0) (ok_do T) hr (pa_cons (pv 4) (pa_cons (pv 1) pa_nil))) pa_nil)))
      (pss_one (ps_aug (i := 3) sc_Session_run_tick.nd rfl (Or.inl rfl) pe_int ip_sub)))))))))))))
      (pss_one (ps_ret (pv 2))))))))), ?_⟩
  refine ⟨_, rfl, L.p, S, L.dx, _, _, rfl, f0, T.cS, T.S4, rfl, _, _, rfl, rfl, _, _, f0, few rfl, ?_⟩
  refine ⟨_, rfl, L.p, S, L.dx, _, rfl, upd_same, T.cS, T.S8, few rfl, ?_⟩
  rw [upd_upd]
  generalize hH1g : upd H L.p (.ins S L.dx (putF "spent" (.int 0) (putF "tick" (.int ((st.tick : Int) + 1)) (sf st.seed st.budget st.quantum L.pl st.tick st.next st.at_ st.begun st.spent)))) = H1
  have hH1 : upd H L.p (.ins S L.dx (sf st.seed st.budget st.quantum L.pl ((st.tick + 1 : Nat) : Int) st.next st.at_ st.begun ((0 : Nat) : Int))) = H1 := hH1g
  have S1 : SAt J Pl S H1 L (mid st (Vbwsak.turnsOf st)) := by
    rw [← hH1]
    have e : mid st (Vbwsak.turnsOf st) = { st with tick := st.tick + 1, spent := 0 } := by
      unfold mid Vbwsak.turnsOf
      dsimp only
      rw [Nat.sub_self]
    rw [e]
    exact hS.fields (s' := { st with tick := st.tick + 1, spent := 0 }) upd_same (Kp.upd (by simp)) rfl
  have k1 : Kp L.fp H H1 := by rw [← hH1]; exact Kp.upd fp_p
  have fr1 : ∀ b, H1 b = none → H b = none ∧ b ∉ L.fp := fun b hb => by
    have nf : b ∉ L.fp := fun z => by
      obtain ⟨o, e⟩ := S1.some_fp z
      rw [hb] at e
      cases e
    refine ⟨?_, nf⟩
    cases e : H b with
    | none => rfl
    | some o => rw [k1 b o e nf] at hb; cases hb
  refine fun d hd => ?_
  refine ⟨Nat.zero_le _, fun rw hrw => ?_⟩
  obtain ⟨hd0, hdf⟩ := fr1 d hd
  have nrd : rw ≠ d := Ne.symm (ne_of_none upd_same hrw)
  obtain ⟨hr0, hrf⟩ := fr1 rw (by rw [upd_ne nrd] at hrw; exact hrw)
  have s2 : Same H1 (upd (upd H1 d (.dK [])) rw (.lst [])) := (Same.new hd).trans (Same.new hrw)
  generalize hH2 : upd (upd H1 d (.dK [])) rw (.lst []) = H2 at s2
  have d2 : H2 d = some (.dK []) := by rw [← hH2, upd_ne (Ne.symm nrd)]; exact upd_same
  have r2 : H2 rw = some (.lst []) := by rw [← hH2]; exact upd_same
  have S2 := S1.same s2
  have f2 : H2 L.p = some _ := S2.ses
  refine ⟨_, rfl, L.p, L.dx, _, rfl, f2, rfl, L, mid st (Vbwsak.turnsOf st), rfl, S2, hW.n8, fun H3 s3 => ?_⟩
  refine ⟨fun f σ H' => ∃ (t : Vbwsak.Turns) (v4 : Option V), σ = [some (.ref L.p), some (.ref d), some (.ref rw), some (.int (Vbwsak.jobsIn t.players : Nat)), v4] ∧ Lp J Pl S st L d rw H tend f t H', ⟨_, Vbwsak.turnsOf st, none, rfl, S2.same s3, ⟨[], s3 _ _ d2, fun th => rfl, ?_⟩, s3 _ _ r2, ?_, (k1.trans (Kp.of s2)).trans (Kp.of s3), hW.pw, ?_, Nat.le_refl _, hrun⟩, ?_⟩
  · have := hW.j64
    show 0 + Vbwsak.jobsIn st.players ≤ 64
    omega
  · have := hW.j64
    show 0 + Vbwsak.jobsIn st.players ≤ 64
    omega
  · by_cases hn : st.players = []
    · exact .inl (by show Vbwsak.jobsIn st.players = 0; rw [hn]; rfl)
    · exact .inr (hW.at_lt hn)
  rintro m σ H' ⟨t, v4, rfl, lp⟩
  -- the loop's end
  have fin : t = tend → ∀ v4 : Option V, tRet (tVar 2) { nx := fun _ H' => Q .non H', rt := Q } [some (.ref L.p), some (.ref d), some (.ref rw), some (.int (Vbwsak.jobsIn t.players : Nat)), v4] H' := fun e v4 => by
    subst e
    exact ⟨_, rfl, k H' rw lp.at_ lp.row lp.kp⟩
  obtain ⟨f, rfl⟩ : ∃ f, m = f + 1 := by
    cases m with
    | zero => have := lp.run; cases this
    | succ f => exact ⟨f, rfl⟩
  have hun : (match Vbwsak.step1 st.seed (st.tick + 1) st.quantum t with | .over => some t | .on u => Vbwsak.run st.seed (st.tick + 1) st.quantum f u) = some tend := lp.run
  refine ⟨_, rfl, _, _, rfl, rfl, _, rfl, ite2 (fun hc => ?_) fun hc => ?_⟩
  rotate_left
  · have h0 : Vbwsak.jobsIn t.players = 0 := by
      refine Nat.eq_zero_of_not_pos fun z => hc (decide_eq_true ?_)
      show (0 : Int) < _
      omega
    have e : Vbwsak.step1 st.seed (st.tick + 1) st.quantum t = .over := by
      unfold Vbwsak.step1
      rw [if_pos ((idle_iff _).mpr h0)]
    rw [e] at hun
    exact fin (Option.some.inj hun) v4
  have h0 : 0 < Vbwsak.jobsIn t.players := by
    have := of_decide_eq_true hc
    have : (0 : Int) < (Vbwsak.jobsIn t.players : Int) := this
    omega
  have hid : ¬ Vbwsak.idle t.players = true := fun z => by
    have := (idle_iff _).mp z
    omega
  have hat : t.at_ < t.players.length := lp.pl.resolve_left (by omega)
  obtain ⟨p, hp⟩ : ∃ p, t.players[t.at_]? = some p := ⟨_, List.getElem?_eq_getElem hat⟩
  have hSt := lp.at_
  obtain ⟨a, jl, ha, hj, ⟨dp, hP⟩, cs, hcs, hJ⟩ := hSt.ps.player (show (mid st t).players[t.at_]? = some p from hp)
  have f3 : H' L.p = some (.ins S L.dx (sf st.seed st.budget st.quantum L.pl ((st.tick + 1 : Nat) : Int) st.next t.at_ t.begun ((st.budget - t.left : Nat) : Int))) := hSt.ses
  have hw := lp.pw.w _ p hp
  -- what goes on
  have go : ∀ (t' : Vbwsak.Turns) (H5 : Hp), Vbwsak.step1 st.seed (st.tick + 1) st.quantum t = .on t' → SAt J Pl S H5 L (mid st t') → (∃ kvs, H5 d = some (.dK kvs) ∧ DRel kvs t'.draws ∧ kvs.length + Vbwsak.jobsIn t'.players ≤ 64) → H5 rw = some (.lst (rowVals t'.done)) → Kp L.fp H H5 → t'.left ≤ st.budget → Lp J Pl S st L d rw H tend f t' H5 := fun t' H5 e c1 c2 c3 c4 c5 => by
    obtain ⟨a1, a2, a3, a4⟩ := step1_pw lp.pw e
    rw [e] at hun
    exact ⟨c1, c2, c3, by have := lp.sum; omega, c4, a1, .inr (a4 hat), c5, hun⟩
  have go2 : ∀ (t' : Vbwsak.Turns) (H5 : Hp), Vbwsak.step1 st.seed (st.tick + 1) st.quantum t = .on t' → SAt J Pl S H5 L (mid st t') → Kp L.fp H' H5 → t'.draws = t.draws → t'.done = t.done → t'.left = t.left → Vbwsak.jobsIn t'.players = Vbwsak.jobsIn t.players ∧ Lp J Pl S st L d rw H tend f t' H5 := fun t' H5 e c1 c2 c3 c4 c5 => by
    obtain ⟨a1, a2, a3, a4⟩ := step1_pw lp.pw e
    rw [c4] at a3
    have ej : Vbwsak.jobsIn t'.players = Vbwsak.jobsIn t.players := by omega
    obtain ⟨kvs, b1, b2, b3⟩ := lp.dict
    exact ⟨ej, go t' H5 e c1 ⟨kvs, c2 _ _ b1 hdf, by rw [c3]; exact b2, by rw [ej]; exact b3⟩ (by rw [c4]; exact c2 _ _ lp.row hrf) (lp.kp.trans c2) (by rw [c5]; exact lp.left)⟩
  have hpa : ∀ n, (if t.at_ + 1 < n then t.at_ + 1 else 0) = (if n ≤ t.at_ + 1 then 0 else t.at_ + 1) := by
    intro n
    split <;> split <;> omega
  have hlen : (L.as.map V.ref).length = t.players.length := by rw [List.length_map]; exact hSt.ps.la
  refine ⟨fun σ' H5 => ∃ (t' : Vbwsak.Turns) (v4 : Option V), σ' = [some (.ref L.p), some (.ref d), some (.ref rw), some (.int (Vbwsak.jobsIn t'.players : Nat)), v4] ∧ Lp J Pl S st L d rw H tend f t' H5, fun σ' H5 z => ⟨f, Nat.lt_succ_self f, z⟩, ?_⟩
  refine ⟨_, rfl, L.p, S, L.dx, _, _, rfl, f3, T.cS, T.S3, rfl, _, rfl, L.p, S, L.dx, _, _, rfl, f3, T.cS, T.S6, rfl, L.pl, _, _, _, rfl, rfl, SqL.of hSt.ps.lst, atI_nat (refs_at ha), ?_⟩
  refine ⟨_, rfl, a, Pl, dp, _, _, rfl, hP, T.cP, T.P2, rfl, _, tru_l (SqL.of hcs), ?_⟩
  cases hjobs : p.jobs with
  | nil =>
    have hcs0 : cs = [] := List.eq_nil_of_length_eq_zero (by rw [hJ.len, hjobs]; rfl)
    subst hcs0
    refine ite2 (fun _ => ?_) fun z => absurd rfl z
    refine ⟨_, rfl, a, Pl, dp, _, rfl, hP, T.cP, T.P3, few rfl, ?_⟩
    generalize hH4g : upd H' a (.ins Pl dp (putF "saved" (.int 0) (pf p.num p.weight jl p.saved p.served))) = H4
    have hH4 : upd H' a (.ins Pl dp (pf p.num p.weight jl ((0 : Nat) : Int) p.served)) = H4 := hH4g
    have naj : jl ≠ a := Ne.symm (ne_il hP hcs)
    have S4 := hSt.set (q' := { p with saved := 0 }) (H' := H4) ha hj hp ⟨⟨dp, by rw [← hH4]; exact upd_same⟩, [], by rw [← hH4, upd_ne naj]; exact hcs, ⟨by show 0 = p.jobs.length; rw [hjobs]; rfl, fun m c j hc => by simp at hc⟩⟩ (by rw [← hH4]; exact Kp.upd (by simp))
    have f4 : H4 L.p = some (.ins S L.dx (sf st.seed st.budget st.quantum L.pl ((st.tick + 1 : Nat) : Int) st.next t.at_ t.begun ((st.budget - t.left : Nat) : Int))) := S4.ses
    refine ⟨_, rfl, L.p, L.dx, _, rfl, f4, rfl, L.p, L.dx, L.pl, _, _, _, _, _, t.at_, _, _, _, rfl, f4, S4.ps.lst, ?_⟩
    rw [hlen, hpa]
    have hst : Vbwsak.step1 st.seed (st.tick + 1) st.quantum t = .on (Vbwsak.passed { t with players := t.players.set t.at_ { p with saved := 0 } }) := by
      unfold Vbwsak.step1
      rw [if_neg hid, hp]
      dsimp only
      rw [hjobs]
    have S5 := S4.fields (H' := upd H4 L.p (.ins S L.dx (sf st.seed st.budget st.quantum L.pl ((st.tick + 1 : Nat) : Int) st.next (if t.players.length ≤ t.at_ + 1 then 0 else t.at_ + 1 : Nat) false ((st.budget - t.left : Nat) : Int)))) (s' := mid st (Vbwsak.passed { t with players := t.players.set t.at_ { p with saved := 0 } })) (by
      unfold mid Vbwsak.passed
      dsimp only
      rw [List.length_set]
      exact upd_same) (Kp.upd (by simp)) rfl
    obtain ⟨ej, l5⟩ := go2 _ _ hst S5 (by
      rw [← hH4]
      exact (Kp.upd (fp_as ha)).trans (Kp.upd fp_p)) rfl rfl rfl
    exact ⟨_, _, by rw [ej]; rfl, l5⟩
  | cons j r =>
    obtain ⟨c, cr, hcc⟩ : ∃ c cr, cs = c :: cr := by
      cases cs with
      | nil => have := hJ.len; rw [hjobs] at this; cases this
      | cons c cr => exact ⟨c, cr, rfl⟩
    subst hcc
    obtain ⟨dj, hjj⟩ := hJ.at_ 0 c j rfl (by rw [hjobs]; rfl)
    have hjb := lp.pw.jobs _ p hp j (by rw [hjobs]; exact List.mem_cons_self)
    have hc0 : ((c :: cr).map V.ref)[0]? = some (.ref c) := rfl
    refine ite2 (fun z => by cases z) fun _ => ?_
    refine ⟨_, rfl, L.p, S, L.dx, _, _, rfl, f3, T.cS, T.S7, rfl, _, tru_b _, ite2 (fun hb => ?_) fun hb => ?_⟩
    · have hb' : t.begun = false := by
        cases e : t.begun with
        | false => rfl
        | true => rw [e] at hb; cases hb
      have hq := hW.q
      refine ⟨_, rfl, a, Pl, dp, _, _, rfl, hP, T.cP, T.P3, rfl, _, rfl, a, Pl, dp, _, _, rfl, hP, T.cP, T.P1, rfl, _, rfl, L.p, S, L.dx, _, _, rfl, f3, T.cS, T.S2, rfl, _, _, rfl, rfl, .inl ⟨by omega, by omega⟩, _, _, rfl, rfl, _, _, hP, few rfl, ?_⟩
      generalize hH4g : upd H' a (.ins Pl dp (putF "saved" (.int ((p.saved : Int) + (p.weight : Int) * (st.quantum : Int))) (pf p.num p.weight jl p.saved p.served))) = H4
      have hH4 : upd H' a (.ins Pl dp (pf p.num p.weight jl ((p.saved + p.weight * st.quantum : Nat) : Int) p.served)) = H4 := by
        rw [← hH4g, Int.natCast_add, Int.natCast_mul]
        rfl
      have naj : jl ≠ a := Ne.symm (ne_il hP hcs)
      have S4 := hSt.set (q' := { p with saved := p.saved + p.weight * st.quantum }) (H' := H4) ha hj hp ⟨⟨dp, by rw [← hH4]; exact upd_same⟩, c :: cr, by rw [← hH4, upd_ne naj]; exact hcs, hJ.mono fun x o hm e => by
        obtain ⟨j2, dy, ey⟩ := hJ.get hm
        rw [← hH4, upd_ne (ne_len ey hP (by show (4 : Nat) ≠ 5; decide))]
        exact e⟩ (by rw [← hH4]; exact Kp.upd (by simp))
      have f4 : H4 L.p = some (.ins S L.dx (sf st.seed st.budget st.quantum L.pl ((st.tick + 1 : Nat) : Int) st.next t.at_ t.begun ((st.budget - t.left : Nat) : Int))) := S4.ses
      refine ⟨_, rfl, L.p, S, L.dx, _, rfl, f4, T.cS, T.S7, few rfl, ?_⟩
      have hst : Vbwsak.step1 st.seed (st.tick + 1) st.quantum t = .on { t with players := t.players.set t.at_ { p with saved := p.saved + p.weight * st.quantum }, begun := true } := by
        unfold Vbwsak.step1
        rw [if_neg hid, hp]
        dsimp only
        rw [hjobs]
        dsimp only
        rw [if_pos hb']
      have S5 := S4.fields (H' := upd H4 L.p (.ins S L.dx (sf st.seed st.budget st.quantum L.pl ((st.tick + 1 : Nat) : Int) st.next t.at_ true ((st.budget - t.left : Nat) : Int)))) (s' := mid st { t with players := t.players.set t.at_ { p with saved := p.saved + p.weight * st.quantum }, begun := true }) upd_same (Kp.upd (by simp)) rfl
      obtain ⟨ej, l5⟩ := go2 _ _ hst S5 (by
        rw [← hH4]
        exact (Kp.upd (fp_as ha)).trans (Kp.upd fp_p)) rfl rfl rfl
      exact ⟨_, _, by rw [ej]; rfl, l5⟩
    · have hb' : ¬ t.begun = false := fun z => hb (by rw [z]; rfl)
      refine ⟨_, rfl, a, Pl, dp, _, _, rfl, hP, T.cP, T.P3, rfl, _, rfl, a, Pl, dp, _, _, rfl, hP, T.cP, T.P2, rfl, jl, _, _, _, rfl, rfl, SqL.of hcs, atI_nat (j := 0) hc0, c, J, dj, _, _, rfl, hjj, T.cJ, T.J2, rfl, _, _, rfl, rfl, _, rfl, ite2 (fun hs => ?_) fun hs => ?_⟩
      · have hs' : p.saved < j.cost := by
          have := of_decide_eq_true hs
          omega
        refine ⟨_, rfl, L.p, L.dx, _, rfl, f3, rfl, L.p, L.dx, L.pl, _, _, _, _, _, t.at_, _, _, _, rfl, f3, hSt.ps.lst, ?_⟩
        rw [hlen, hpa]
        have hst : Vbwsak.step1 st.seed (st.tick + 1) st.quantum t = .on (Vbwsak.passed t) := by
          unfold Vbwsak.step1
          rw [if_neg hid, hp]
          dsimp only
          rw [hjobs]
          dsimp only
          rw [if_neg hb', if_pos hs']
        have S5 := hSt.fields (H' := upd H' L.p (.ins S L.dx (sf st.seed st.budget st.quantum L.pl ((st.tick + 1 : Nat) : Int) st.next (if t.players.length ≤ t.at_ + 1 then 0 else t.at_ + 1 : Nat) false ((st.budget - t.left : Nat) : Int)))) (s' := mid st (Vbwsak.passed t)) upd_same (Kp.upd (by simp)) rfl
        obtain ⟨ej, l5⟩ := go2 _ _ hst S5 (Kp.upd fp_p) rfl rfl rfl
        exact ⟨_, _, by rw [ej]; rfl, l5⟩
      · have hs' : ¬ p.saved < j.cost := fun z => hs (decide_eq_true (by omega))
        have hleft := lp.left
        refine ⟨_, rfl, L.p, S, L.dx, _, _, rfl, f3, T.cS, T.S1, rfl, _, rfl, L.p, S, L.dx, _, _, rfl, f3, T.cS, T.S8, rfl, _, _, rfl, rfl, _, rfl, a, Pl, dp, _, _, rfl, hP, T.cP, T.P2, rfl, jl, _, _, _, rfl, rfl, SqL.of hcs, atI_nat (j := 0) hc0, c, J, dj, _, _, rfl, hjj, T.cJ, T.J2, rfl, _, _, rfl, rfl, _, rfl, ite2 (fun hl => ?_) fun hl => ?_⟩
        · have hl' : t.left < j.cost := by
            have := of_decide_eq_true hl
            omega
          have hst : Vbwsak.step1 st.seed (st.tick + 1) st.quantum t = .over := by
            unfold Vbwsak.step1
            rw [if_neg hid, hp]
            dsimp only
            rw [hjobs]
            dsimp only
            rw [if_neg hb', if_neg hs', if_pos hl']
          rw [hst] at hun
          exact fin (Option.some.inj hun) _
        · have hl' : ¬ t.left < j.cost := fun z => hl (decide_eq_true (by omega))
          obtain ⟨kvs, b1, b2, b3⟩ := lp.dict
          have hjl : p.jobs.length ≤ Vbwsak.jobsIn t.players := by
            have h1 := jobsIn_set { p with jobs := [] } hp
            have h3 : ({ p with jobs := [] } : Vbwsak.Player).jobs.length = 0 := rfl
            omega
          refine ⟨_, rfl, .inl ⟨rfl, _, SqL.of lp.row⟩, _, rfl, L.p, L.dx, _, rfl, f3, rfl, _, rfl, _, rfl, L, mid st t, t.at_, a, d, p, j, r, kvs, t.draws, rfl, hSt, ha, hp, hjobs, by omega, by omega, hjb.2.2.1, b1, b2, by omega, fun H4 l kvs' S4 d4 D4 hk4 kp4 l4 => ?_⟩
          have r4 : H4 rw = some (.lst (rowVals t.done)) := kp4 _ _ lp.row (by
            intro z
            rcases List.mem_cons.mp z with z | z
            · exact nrd z
            · exact hrf z)
          refine ⟨rw, l, _, _, rfl, rfl, r4, l4, ?_, ?_⟩
          · have := lp.sum
            rw [rowVals_len, rowVals_len, sizeLine_eq]
            show 3 * t.done.length + 3 * 1 ≤ 16777216
            omega
          have hst : Vbwsak.step1 st.seed (st.tick + 1) st.quantum t = .on { t with players := t.players.set t.at_ (didJob p j r), left := t.left - j.cost, draws := Vbwsak.addDraw j.thing t.draws, done := t.done ++ [{ job := j.num, player := p.num, drawn := Vbwsak.draw st.seed (st.tick + 1) j.thing (Vbwsak.drawsOf t.draws j.thing) j.sides }] } := by
            unfold Vbwsak.step1
            rw [if_neg hid, hp]
            dsimp only
            rw [hjobs]
            dsimp only
            rw [if_neg hb', if_neg hs', if_neg hl']
            rfl
          obtain ⟨a1, a2, a3, a4⟩ := step1_pw lp.pw hst
          have ejj : Vbwsak.jobsIn (t.players.set t.at_ (didJob p j r)) + 1 = Vbwsak.jobsIn t.players := by
            have a3' : (t.done ++ [_]).length + Vbwsak.jobsIn (t.players.set t.at_ (didJob p j r)) = t.done.length + Vbwsak.jobsIn t.players := a3
            rw [List.length_append, List.length_singleton] at a3'
            omega
          rw [← rowVals_app]
          have S5 : SAt J Pl S H4 L (mid st { t with players := t.players.set t.at_ (didJob p j r), left := t.left - j.cost, draws := Vbwsak.addDraw j.thing t.draws, done := t.done ++ [{ job := j.num, player := p.num, drawn := Vbwsak.draw st.seed (st.tick + 1) j.thing (Vbwsak.drawsOf t.draws j.thing) j.sides }] }) := by
            have e : mid st { t with players := t.players.set t.at_ (didJob p j r), left := t.left - j.cost, draws := Vbwsak.addDraw j.thing t.draws, done := t.done ++ [{ job := j.num, player := p.num, drawn := Vbwsak.draw st.seed (st.tick + 1) j.thing (Vbwsak.drawsOf t.draws j.thing) j.sides }] } = { mid st t with players := (mid st t).players.set t.at_ (didJob p j r), spent := (mid st t).spent + j.cost } := by
              unfold mid
              dsimp only
              rw [show st.budget - (t.left - j.cost) = st.budget - t.left + j.cost by omega]
            rw [e]
            exact S4
          refine ⟨_, rfl, _, _, rfl, rfl, _, some (.ref a), ?_, go _ _ hst (S5.list r4 hrf) ⟨kvs', by rw [upd_ne (Ne.symm nrd)]; exact d4, D4, ?_⟩ upd_same ?_ ?_⟩
          · have e1 : (Vbwsak.jobsIn t.players : Int) - 1 = ((Vbwsak.jobsIn (t.players.set t.at_ (didJob p j r)) : Nat) : Int) := by omega
            show [_, _, _, some (V.int ((Vbwsak.jobsIn t.players : Int) - 1)), _] = _
            rw [e1]
          · show kvs'.length + Vbwsak.jobsIn (t.players.set t.at_ (didJob p j r)) ≤ 64
            omega
          · intro b o e n
            have n1 : b ≠ rw := ne_of_none e hr0
            have n2 : b ≠ d := ne_of_none e hd0
            rw [upd_ne n1]
            exact kp4 b o (lp.kp b o e n) (by
              intro z
              rcases List.mem_cons.mp z with z | z
              · exact n2 z
              · exact n z)
          · show t.left - j.cost ≤ st.budget
            omega
end
end TS
end
section
set_option Elab.async false
set_option linter.all false
set_option maxRecDepth 100000
set_option maxHeartbeats 2000000
/-! ### several ticks; numbers within their ranges -/
namespace TS
open PySem PySem.Spec PyProof.Rows L2 TR
theorem tickedBy_snoc : ∀ (n : Nat) (s : Vbwsak.State), Vbwsak.tickedBy (n + 1) s = ((Vbwsak.ticked (Vbwsak.tickedBy n s).1).1, (Vbwsak.tickedBy n s).2 ++ (Vbwsak.ticked (Vbwsak.tickedBy n s).1).2)
  | 0, s => by
    rw [Vbwsak.tickedBy.eq_2, Vbwsak.tickedBy.eq_1, Vbwsak.tickedBy.eq_1]
    dsimp only
    rw [List.append_nil, List.nil_append]
  | n + 1, s => by
    rw [Vbwsak.tickedBy.eq_2 s (n + 1), tickedBy_snoc n, Vbwsak.tickedBy.eq_2 s n]
    dsimp only
    rw [List.append_assoc]
section
variable {P : Program} {w : World} {K : PySem.W.Frag} {mg : Str → Option Value} {base : Heap} {J Pl S : Addr}
def spTicks (J Pl S : Addr) : Sp := fun vs H Q _ => ∃ (L : Lay) (s : Vbwsak.State) (n : Nat), vs = [.ref L.p, .int n] ∧ n ≤ 20 ∧ SAt J Pl S H L s ∧ WF s ∧ ∀ (H' : Hp) (rw : Addr), SAt J Pl S H' L (Vbwsak.tickedBy n s).1 → H' rw = some (.lst (rowVals (Vbwsak.tickedBy n s).2)) → Kp L.fp H H' → Q (.ref rw) H'
theorem ok_ticks (T : Txt K mg J Pl S) : MX P w K mg base 7 S "run_ticks" (spTicks J Pl S) := by
  refine MX.of (k := 6) T.cS T.m_Session_run_ticks sc_Session_run_ticks (fun vs H Q E h => by obtain ⟨_, _, _, rfl, _⟩ := h; rfl) fun f cdv A outer s H vs Q E hr h => ?_
  obtain ⟨L, st, n, rfl, hn, hS, hW, k⟩ := h
  refine ⟨_, (pss_cons (ps_set (i := 2) sc_Session_run_ticks.nd rfl (Or.inl rfl) (pe_lst pa_nil))
      (pss_cons (ps_for PassesOwn.never rfl (pi_range1 rfl T.b_range (pa_cons (pv 1) pa_nil)) (pg_name (i := 3) sc_Session_run_ticks.nd rfl (Or.inl rfl))
      (pss_one (ps_expr (pe_bm PySem.F.plainAttrs_list PySem.F.slot_list_extend PySem.F.type_list_extend mt_extend (pv 2) (pa_cons (pe_mx0 (pv 0) (ok_tick T) hr) pa_nil)))))
      (pss_one (ps_ret (pv 2))))), ?_⟩
  refine ⟨Nat.zero_le _, fun rw hrw => ?_⟩
  have hrf : rw ∉ L.fp := fun z => by
    obtain ⟨o, e⟩ := hS.some_fp z
    rw [hrw] at e
    cases e
  have s1 : Same H (upd H rw (.lst [])) := Same.new hrw
  refine ⟨_, rfl, (n : Int), rfl, by omega, by omega, for_range (lo := 0) (n := (n : Int).toNat) (fun i σ H' => ∃ v3 : Option V, σ = [some (.ref L.p), some (.int n), some (.ref rw), v3] ∧ SAt J Pl S H' L (Vbwsak.tickedBy i st).1 ∧ H' rw = some (.lst (rowVals (Vbwsak.tickedBy i st).2)) ∧ Kp L.fp H H') ⟨none, rfl, hS.same s1, upd_same, Kp.of s1⟩ ?_ ?_⟩
  · rintro i σ H' hi ⟨v3, rfl, S1, r1, k1⟩
    obtain ⟨W1, c1, _⟩ := WF.tickedBy i hW
    have f1 : H' L.p = some _ := S1.ses
    refine ⟨_, rfl, .inl ⟨rfl, _, SqL.of r1⟩, _, rfl, L.p, L.dx, _, rfl, f1, rfl, L, (Vbwsak.tickedBy i st).1, rfl, S1, W1, fun H4 r4 S4 e4 k4 => ?_⟩
    have c2 := W1.ticked.2.1
    have h64 := hW.j64
    have r1' := k4 _ _ r1 hrf
    refine ⟨rw, r4, _, _, rfl, rfl, r1', e4, ?_, ?_⟩
    · rw [rowVals_len, rowVals_len, sizeLine_eq]
      omega
    rw [← rowVals_app]
    refine ⟨_, rfl, ?_, ?_, ?_⟩
    · rw [tickedBy_snoc]
      exact S4.list r1' hrf
    · rw [tickedBy_snoc]
      exact upd_same
    · intro b o e nb
      rw [upd_ne (ne_of_none e hrw)]
      exact k4 _ _ (k1 _ _ e nb) nb
  · rintro σ H' ⟨v3, rfl, S1, r1, k1⟩
    rw [Int.toNat_natCast] at S1 r1
    exact ⟨_, rfl, k H' rw S1 r1 k1⟩
/-! all_within -/
inductive Rg (K : PySem.W.Frag) (H : Hp) : List Addr → List (Int × Int) → Prop
  | nil : Rg K H [] []
  | cons {t : Addr} {r : Int × Int} {ts : List Addr} {rs : List (Int × Int)} : SqT K H t [.int r.1, .int r.2] → Rg K H ts rs → Rg K H (t :: ts) (r :: rs)
theorem Rg.get {H : Hp} : ∀ {ts : List Addr} {rs : List (Int × Int)}, Rg K H ts rs → ∀ {i : Nat} {t : Addr}, ts[i]? = some t → ∃ r, rs[i]? = some r ∧ SqT K H t [.int r.1, .int r.2]
  | _, _, .nil, i, t, h => by simp at h
  | _, _, .cons q _, 0, t, h => by
    have := Option.some.inj h
    subst this
    exact ⟨_, rfl, q⟩
  | _, _, .cons _ g, i + 1, t, h => g.get (i := i) h
theorem Rg.len {H : Hp} : ∀ {ts : List Addr} {rs : List (Int × Int)}, Rg K H ts rs → ts.length = rs.length
  | _, _, .nil => rfl
  | _, _, .cons _ g => by rw [List.length_cons, List.length_cons, g.len]
def allIn (ns : List Int) (rs : List (Int × Int)) : Bool := (ns.zip rs).all fun x => Vbwsak.from_ x.1 x.2.1 x.2.2
def spAll (K : PySem.W.Frag) : Sp := fun vs H Q _ => ∃ (a b : Addr) (ns : List Int) (ts : List Addr) (rs : List (Int × Int)), vs = [.ref a, .ref b] ∧ SqL K H a (ns.map V.int) ∧ (SqL K H b (ts.map V.ref) ∨ SqT K H b (ts.map V.ref)) ∧ Rg K H ts rs ∧ ∀ H', Same H H' → Q (.bl (allIn ns rs)) H'
theorem at_int {ns : List Int} {i : Nat} {v : V} (h : (ns.map V.int)[i]? = some v) : ∃ n, ns[i]? = some n ∧ v = .int n := by
  rw [List.getElem?_map] at h
  cases e : ns[i]? with
  | none => rw [e] at h; cases h
  | some a => rw [e] at h; exact ⟨a, rfl, (Option.some.inj h).symm⟩
/-- the turns over zip, of either kind -/
theorem for_zip2 {J2 : It} {K : PySem.W.Frag} {a b : Addr} {xs ys : List V} {g : TG} {tb : TS} {D : Ends} {σ : L2.St} {H : Hp} (Pv : Nat → L2.St → Hp → Prop) (h0 : Pv 0 σ H)
    (hgo : ∀ i σ H x y, Pv i σ H → xs[i]? = some x → ys[i]? = some y → J2.go i H ∧ ∀ v H', J2.yld i H v H' → ∃ T, v = .ref T ∧ H T = none ∧ H' = upd H T (.tup [x, y])) (hst : ∀ i σ H, Pv i σ H → (xs.length ≤ i ∨ ys.length ≤ i) → J2.stop i H)
    (hs : ∀ (i : Nat) x y σ H (T : Addr), xs[i]? = some x → ys[i]? = some y → Pv i σ H → H T = none → g (.ref T) σ (upd H T (.tup [x, y])) fun σ2 H2 => tb { D with nx := Pv (i + 1), ct := Pv (i + 1), bk := D.nx } σ2 H2) (hd : ∀ i σ H, (xs.length ≤ i ∨ ys.length ≤ i) → Pv i σ H → D.nx σ H) :
    ∃ W : Nat → Nat → L2.St → Hp → Prop, (∃ m, W 0 m σ H) ∧ ∀ i m σ H, W i m σ H →
      (J2.stop i H ∧ D.nx σ H) ∨ (J2.go i H ∧ ∃ N : L2.St → Hp → Prop, (∀ σ' H', N σ' H' → ∃ m', m' < m ∧ W (i + 1) m' σ' H') ∧ ∀ x H', J2.yld i H x H' → g x σ H' fun σ2 H2 => tb { D with nx := N, ct := N, bk := D.nx } σ2 H2) := by
  refine ⟨fun i m σ H => m = xs.length - i ∧ Pv i σ H, ⟨_, rfl, h0⟩, ?_⟩
  rintro i m σ H ⟨rfl, p⟩
  by_cases lt : i < xs.length ∧ i < ys.length
  · obtain ⟨g1, g2⟩ := hgo i σ H _ _ p (List.getElem?_eq_getElem lt.1) (List.getElem?_eq_getElem lt.2)
    refine .inr ⟨g1, Pv (i + 1), fun σ' H' p' => ⟨xs.length - (i + 1), by omega, rfl, p'⟩, fun v H' y => ?_⟩
    obtain ⟨T, rfl, hT, rfl⟩ := g2 v H' y
    exact hs i _ _ σ H T (List.getElem?_eq_getElem lt.1) (List.getElem?_eq_getElem lt.2) p hT
  · have e : xs.length ≤ i ∨ ys.length ≤ i := by omega
    exact .inl ⟨hst i σ H p e, hd i σ H e p⟩
theorem ok_all (T : Txt K mg J Pl S) : FG P w K mg base 1 "all_within" (spAll K) := by
  refine FG.of (k := 0) T.d_all_within sc_all_within (fun vs H Q E h => by obtain ⟨_, _, _, _, _, rfl, _⟩ := h; rfl) fun f cdv A outer s H vs Q E hr h => ?_
  obtain ⟨a, b, ns, ts, rs, rfl, ha, hb, hg, k⟩ := h
  refine ⟨_, (pss_cons (ps_for PassesOwn.never rfl (pi_or (pi_zip rfl T.b_zip (pa_cons (pv 0) (pa_cons (pv 1) pa_nil))) (pi_zt rfl T.b_zip (pa_cons (pv 0) (pa_cons (pv 1) pa_nil)))) (pg_tup rfl (pgs_cons (pg_name (i := 2) sc_all_within.nd rfl (Or.inl rfl)) (pgs_cons (pg_name (i := 3) sc_all_within.nd rfl (Or.inl rfl)) pgs_nil)))
      (pss_one (ps_if ((pw_or (pt_cmpR op_lt (pv 2) (pe_ix ix_tup (pv 3) pe_int (fun _ _ => rfl)) (nomark _)) (pw_or1 (pt_cmpR op_gt (pv 2) (pe_ix ix_tup (pv 3) pe_int (fun _ _ => rfl)) (nomark _))))).pt (pss_one (ps_ret pe_bl)) pss_nil)))
      (pss_one (ps_ret pe_bl))), ?_⟩
  -- one turn, and the end, whatever ranges is
  have turn : ∀ (i : Nat) (x y : V) (σ : L2.St) (H' : Hp) (t : Addr), (ns.map V.int)[i]? = some x → (ts.map V.ref)[i]? = some y → (∃ v2 v3 : Option V, σ = [some (.ref a), some (.ref b), v2, v3] ∧ Same H H' ∧ allIn ns rs = allIn (ns.drop i) (rs.drop i)) → H' t = none →
      ∃ (n : Int) (t' : Addr) (r : Int × Int), x = .int n ∧ y = .ref t' ∧ SqT K (upd H' t (.tup [x, y])) t' [.int r.1, .int r.2] ∧ (Vbwsak.from_ n r.1 r.2 = false → allIn ns rs = false) ∧ (Vbwsak.from_ n r.1 r.2 = true → allIn ns rs = allIn (ns.drop (i + 1)) (rs.drop (i + 1))) := by
    rintro i x y σ H' t hx hy ⟨v2, v3, rfl, sm, he⟩ ht
    obtain ⟨n, hn, rfl⟩ := at_int hx
    obtain ⟨t', ht', rfl⟩ := at_refs hy
    obtain ⟨r, hr', q⟩ := hg.get ht'
    obtain ⟨l1, e1⟩ := List.getElem?_eq_some_iff.mp hn
    obtain ⟨l2, e2⟩ := List.getElem?_eq_some_iff.mp hr'
    have he2 : allIn ns rs = (Vbwsak.from_ n r.1 r.2 && allIn (ns.drop (i + 1)) (rs.drop (i + 1))) := by
      rw [he, List.drop_eq_getElem_cons l1, List.drop_eq_getElem_cons l2, e1, e2]
      rfl
    refine ⟨n, t', r, rfl, rfl, sq_tup (sm.trans (Same.new ht)) q, fun z => by rw [he2, z]; rfl, fun z => by rw [he2, z]; rfl⟩
  have fin : ∀ (i : Nat), ((ns.map V.int).length ≤ i ∨ (ts.map V.ref).length ≤ i) → allIn ns rs = allIn (ns.drop i) (rs.drop i) → allIn ns rs = true := fun i hi he => by
    rw [List.length_map, List.length_map, hg.len] at hi
    rw [he]
    rcases hi with hi | hi
    · rw [List.drop_eq_nil_of_le hi]
      rfl
    · rw [List.drop_eq_nil_of_le hi]
      unfold allIn
      rw [List.zip_nil_right]
      rfl
  have body : ∀ (D : Ends) (i : Nat) (x y : V) (σ : L2.St) (H' : Hp) (t : Addr), (ns.map V.int)[i]? = some x → (ts.map V.ref)[i]? = some y → (∃ v2 v3 : Option V, σ = [some (.ref a), some (.ref b), v2, v3] ∧ Same H H' ∧ allIn ns rs = allIn (ns.drop i) (rs.drop i)) → H' t = none → D.rt = Q →
      D.nx = (fun σ H' => ∃ v2 v3 : Option V, σ = [some (.ref a), some (.ref b), v2, v3] ∧ Same H H' ∧ allIn ns rs = allIn (ns.drop (i + 1)) (rs.drop (i + 1))) →
      gTup K 2 (gCons (gName 2) (gCons (gName 3) gNil)) (.ref t) σ (upd H' t (.tup [x, y])) fun σ2 H2 => tIfS (tOr (tTest (tOp (rI0 fun i j => .bl (decide (i < j))) (tVar 2) (tOp (rIxT K) (tVar 3) (tC (.int 0))))) (tTest (tOp (rI0 fun i j => .bl (decide (j < i))) (tVar 2) (tOp (rIxT K) (tVar 3) (tC (.int 1)))))) (tRet (tC (.bl false))) tNext D σ2 H2 := by
    rintro D i x y σ H' t hx hy hp ht hrt hnx
    obtain ⟨n, t', r, rfl, rfl, q, hf, htr⟩ := turn i x y σ H' t hx hy hp ht
    obtain ⟨v2, v3, rfl, sm, he⟩ := hp
    have sm2 := sm.trans (Same.new (o := .tup [.int n, .ref t']) ht)
    refine ⟨t, _, rfl, SqT.of upd_same, rfl, _, _, rfl, _, _, rfl, rfl, ?_⟩
    refine ⟨_, rfl, _, rfl, t', _, _, _, rfl, rfl, q, atI_nat (j := 0) rfl, _, _, rfl, rfl, _, rfl, ite2 (fun hc => ?_) fun hc => ?_⟩
    · have hc' : n < r.1 := of_decide_eq_true hc
      have hff : Vbwsak.from_ n r.1 r.2 = false := decide_eq_false (by omega)
      refine iteT ?_
      show D.rt (.bl false) _
      rw [hrt]
      have z := k _ sm2
      rw [hf hff] at z
      exact z
    · have hc' : ¬ n < r.1 := fun z => hc (decide_eq_true z)
      refine ⟨_, rfl, _, rfl, t', _, _, _, rfl, rfl, q, atI_nat (j := 1) rfl, _, _, rfl, rfl, _, rfl, ite2 (fun hd => ?_) fun hd => ?_⟩
      · have hd' : r.2 < n := of_decide_eq_true hd
        have hff : Vbwsak.from_ n r.1 r.2 = false := decide_eq_false (by omega)
        show D.rt (.bl false) _
        rw [hrt]
        have z := k _ sm2
        rw [hf hff] at z
        exact z
      · have hd' : ¬ r.2 < n := fun z => hd (decide_eq_true z)
        have htt : Vbwsak.from_ n r.1 r.2 = true := decide_eq_true ⟨by omega, by omega⟩
        show D.nx _ _
        rw [hnx]
        exact ⟨_, _, rfl, sm2, htr htt⟩
  rcases hb with hb | hb
  · refine .inl ⟨_, rfl, _, rfl, a, b, _, _, rfl, ha, hb, for_zip2 (K := K) (a := a) (b := b) (xs := ns.map V.int) (ys := ts.map V.ref) (fun i σ H' => ∃ v2 v3 : Option V, σ = [some (.ref a), some (.ref b), v2, v3] ∧ Same H H' ∧ allIn ns rs = allIn (ns.drop i) (rs.drop i)) ⟨none, none, rfl, Same.refl _, rfl⟩ ?_ ?_ ?_ ?_⟩
    · rintro i σ H' x y ⟨v2, v3, rfl, sm, he⟩ hx hy
      refine ⟨⟨_, _, x, y, sm.seq ha, sm.seq hb, hx, hy⟩, ?_⟩
      rintro v H2 ⟨t, x', y', rfl, ht, rfl, hx', hy'⟩
      have e1 := (hx' _ (sm.seq ha)).symm.trans hx
      have e2 := (hy' _ (sm.seq hb)).symm.trans hy
      cases e1
      cases e2
      exact ⟨t, rfl, ht, rfl⟩
    · rintro i σ H' ⟨v2, v3, rfl, sm, he⟩ hi
      exact ⟨_, _, sm.seq ha, sm.seq hb, hi⟩
    · exact fun i x y σ H' t hx hy hp ht => body _ i x y σ H' t hx hy hp ht rfl rfl
    · rintro i σ H' hi ⟨v2, v3, rfl, sm, he⟩
      have z := k H' sm
      rw [fin i hi he] at z
      exact z
  · refine .inr ⟨_, rfl, _, rfl, a, b, _, _, rfl, ha, hb, for_zip2 (K := K) (a := a) (b := b) (xs := ns.map V.int) (ys := ts.map V.ref) (fun i σ H' => ∃ v2 v3 : Option V, σ = [some (.ref a), some (.ref b), v2, v3] ∧ Same H H' ∧ allIn ns rs = allIn (ns.drop i) (rs.drop i)) ⟨none, none, rfl, Same.refl _, rfl⟩ ?_ ?_ ?_ ?_⟩
    · rintro i σ H' x y ⟨v2, v3, rfl, sm, he⟩ hx hy
      refine ⟨⟨_, _, x, y, sm.seq ha, sq_tup sm hb, hx, hy⟩, ?_⟩
      rintro v H2 ⟨t, x', y', rfl, ht, rfl, hx', hy'⟩
      have e1 := (hx' _ (sm.seq ha)).symm.trans hx
      have e2 := (hy' _ (sq_tup sm hb)).symm.trans hy
      cases e1
      cases e2
      exact ⟨t, rfl, ht, rfl⟩
    · rintro i σ H' ⟨v2, v3, rfl, sm, he⟩ hi
      exact ⟨_, _, sm.seq ha, sq_tup sm hb, hi⟩
    · exact fun i x y σ H' t hx hy hp ht => body _ i x y σ H' t hx hy hp ht rfl rfl
    · rintro i σ H' hi ⟨v2, v3, rfl, sm, he⟩
      have z := k H' sm
      rw [fin i hi he] at z
      exact z
end
end TS
end
section
set_option Elab.async false
set_option linter.all false
set_option maxRecDepth 100000
set_option maxHeartbeats 2000000
/-! ### the calls -/
namespace TS
open PySem PySem.Spec PyProof.Rows L2 TR
/-- a call's number and its numbers -/
def numsOf : Vbwsak.Call → Nat × List Int
  | .begin_ a b c => (0, [a, b, c])
  | .join a b => (1, [a, b])
  | .leave a => (2, [a])
  | .job a b c d => (3, [a, b, c, d])
  | .drop a => (4, [a])
  | .tick a => (5, [a])
  | .queue a => (6, [a])
  | .players => (7, [])
  | .weigh a b => (8, [a, b])
  | .draw a b c d => (9, [a, b, c, d])
  | .raw a b c => (10, [a, b, c])
  | .shuffle a b c => (11, [a, b, c])
  | .pick a b ws => (12, a :: b :: (ws.length : Int) :: ws)
  | .bound a => (13, [a])
  | .try_ a => (14, [a])
  | .state => (15, [])
/-- an answer's list is not one that was there -/
def Fr (H : Hp) (L : Lay) (l : Addr) : Prop := ∀ b o, H b = some o → b ∉ L.fp → b ≠ l
theorem Fr.of {H H1 : Hp} {L : Lay} {l : Addr} (k : Kp L.fp H H1) (h : H1 l = none) : Fr H L l := fun b o e n => ne_of_none (k b o e n) h
def spAns (K : PySem.W.Frag) (J Pl S : Addr) (n : Nat) : Sp := fun vs H Q _ => ∃ (L : Lay) (s : Vbwsak.State) (nb : Addr) (c : Vbwsak.Call), (numsOf c).1 = n ∧ vs = [.ref L.p, .ref nb] ∧ SAt J Pl S H L s ∧ WF s ∧ SqL K H nb ((numsOf c).2.map V.int) ∧ (numsOf c).2.length ≤ 100 ∧
  ∀ (H' : Hp) (L' : Lay) (l : Addr), L'.p = L.p → SAt J Pl S H' L' (Vbwsak.step s c).1 → Ch H H' L L' → H' l = some (.lst ((Vbwsak.step s c).2.map V.int)) → Fr H L l → Q (.ref l) H'
theorem not_b {x y : Bool} (h : (!x) = y) : x = !y := by cases x <;> cases y <;> simp_all
theorem all1 {x : Bool} : (!(x && true)) = true ↔ x = false := by cases x <;> simp
theorem all2 {x y : Bool} : (!(x && (y && true))) = true ↔ x = false ∨ y = false := by cases x <;> cases y <;> simp
theorem all3 {x y z : Bool} : (!(x && (y && (z && true)))) = true ↔ x = false ∨ y = false ∨ z = false := by cases x <;> cases y <;> cases z <;> simp
theorem all4 {x y z u : Bool} : (!(x && (y && (z && (u && true))))) = true ↔ x = false ∨ y = false ∨ z = false ∨ u = false := by cases x <;> cases y <;> cases z <;> cases u <;> simp
theorem from_t {n lo hi : Int} (h : ¬ Vbwsak.from_ n lo hi = false) : lo ≤ n ∧ n ≤ hi := from_iff.mp h
section
variable {P : Program} {w : World} {K : PySem.W.Frag} {mg : Str → Option Value} {base : Heap} {J Pl S : Addr}
/-- an answer that leaves all as it was -/
theorem stays {H : Hp} {L : Lay} {s : Vbwsak.State} {c : Vbwsak.Call} {Q : VK} (hS : SAt J Pl S H L s) (k : ∀ (H' : Hp) (L' : Lay) (l : Addr), L'.p = L.p → SAt J Pl S H' L' (Vbwsak.step s c).1 → Ch H H' L L' → H' l = some (.lst ((Vbwsak.step s c).2.map V.int)) → Fr H L l → Q (.ref l) H')
    (row : List Int) (e : Vbwsak.step s c = (s, row)) {H1 : Hp} (s1 : Same H H1) {l : Addr} (hl : H1 l = none) : Q (.ref l) (upd H1 l (.lst (row.map V.int))) := by
  rw [e] at k
  have s2 := s1.trans (Same.new (o := .lst (row.map V.int)) hl)
  exact k _ L l rfl (hS.same s2) (Ch.of (Kp.of s2)) upd_same (Fr.of (Kp.of s1) hl)
/-- an answer that changes the session where it stands -/
theorem turns {H : Hp} {L L1 : Lay} {s s' : Vbwsak.State} {c : Vbwsak.Call} {Q : VK} (k : ∀ (H' : Hp) (L' : Lay) (l : Addr), L'.p = L.p → SAt J Pl S H' L' (Vbwsak.step s c).1 → Ch H H' L L' → H' l = some (.lst ((Vbwsak.step s c).2.map V.int)) → Fr H L l → Q (.ref l) H')
    (row : List Int) (e : Vbwsak.step s c = (s', row)) {H1 : Hp} (hp : L1.p = L.p) (S1 : SAt J Pl S H1 L1 s') (c1 : Ch H H1 L L1) {l : Addr} (hl : H1 l = none) : Q (.ref l) (upd H1 l (.lst (row.map V.int))) := by
  rw [e] at k
  exact k _ L1 l hp (S1.same (Same.new hl)) (c1.trans (Ch.of (Kp.new hl))) upd_same (Fr.of c1.keep hl)
theorem ok_a0 (T : Txt K mg J Pl S) : FG P w K mg base 8 "answer_begin" (spAns K J Pl S 0) := by
  refine FG.of (k := 7) T.d_answer_begin sc_answer_begin (fun vs H Q E h => by obtain ⟨_, _, _, _, _, rfl, _⟩ := h; rfl) fun f cdv A outer s H vs Q E hr h => ?_
  obtain ⟨L, st, nb, c, hn, rfl, hS, hW, hN, hl100, k⟩ := h
  cases c <;> first | cases hn | skip
  rename_i sd bu qu
  have hN : SqL K H nb [.int sd, .int bu, .int qu] := hN
  refine ⟨_, (pss_cons (ps_if (pt_not (pt_truth (pe_fg (ok_all T) (hr.mono (by decide)) (pa_cons (pv 1) (pa_cons (pe_tup (pa_cons (pe_gt T.g_SEEDS) (pa_cons (pe_gt T.g_BUDGETS) (pa_cons (pe_gt T.g_QUANTUMS) pa_nil)))) pa_nil))) (fun _ => rfl))) (pss_one (ps_ret (pe_lst (pa_cons (pe_g T.g_NOT_IN_RANGE) pa_nil)))) pss_nil)
      (pss_cons (ps_expr (pe_mx (pv 0) (ok_begin T) (hr.mono (by decide)) (pa_cons (pe_ix ix_list (pv 1) pe_int (fun _ _ => rfl)) (pa_cons (pe_ix ix_list (pv 1) pe_int (fun _ _ => rfl)) (pa_cons (pe_ix ix_list (pv 1) pe_int (fun _ _ => rfl)) pa_nil)))))
      (pss_one (ps_ret (pe_lst (pa_cons pe_int pa_nil)))))), ?_⟩
  refine ⟨_, rfl, fun a1 q1 a2 q2 a3 q3 => ⟨by show 3 ≤ sizeLine; decide, fun t ht => ?_⟩⟩
  have s0 : Same H (upd H t (.tup [.ref a1, .ref a2, .ref a3])) := Same.new ht
  refine ⟨nb, t, [sd, bu, qu], [a1, a2, a3], [(0, 1000000000000000000), (20000, 1000000), (100, 10000)], rfl, s0.seq hN, .inr (SqT.of upd_same), .cons (q1 _) (.cons (q2 _) (.cons (q3 _) .nil)), fun H1 s1 => ⟨_, tru_b _, ite2 (fun hc => ?_) fun hc => ?_⟩⟩
  · have hc' := all3.mp hc
    exact ⟨by show 1 ≤ sizeLine; decide, fun l hl => stays hS k [-1] (if_pos hc') (s0.trans s1) hl⟩
  · have hc' : ¬ (Vbwsak.from_ sd 0 1000000000000000000 = false ∨ Vbwsak.from_ bu 20000 1000000 = false ∨ Vbwsak.from_ qu 100 10000 = false) := fun z => hc (all3.mpr z)
    obtain ⟨c1, c2, c3⟩ := not_or3 hc'
    have c1 := from_t c1
    have c2 := from_t c2
    have c3 := from_t c3
    have s01 := s0.trans s1
    have hN1 := s01.seq hN
    have S1 := hS.same s01
    have f1 : H1 L.p = some (.ins S L.dx (sf st.seed st.budget st.quantum L.pl st.tick st.next st.at_ st.begun st.spent)) := S1.ses
    refine ⟨_, rfl, L.p, L.dx, _, rfl, f1, rfl, _, rfl, nb, _, _, _, rfl, rfl, hN1, atI_nat (j := 0) rfl, _, rfl, nb, _, _, _, rfl, rfl, hN1, atI_nat (j := 1) rfl, _, rfl, nb, _, _, _, rfl, rfl, hN1, atI_nat (j := 2) rfl, L.p, L.dx, _, _, _, _, rfl, f1, .inr ⟨_, _, _, _, _, _, _, _, _, rfl⟩, fun pl hpl => ?_⟩
    refine ⟨by show 1 ≤ sizeLine; decide, fun l hl => turns (L1 := ⟨L.p, L.dx, pl, [], []⟩) (s' := { Vbwsak.start with seed := sd.toNat, budget := bu.toNat, quantum := qu.toNat }) k [0] ?_ rfl ?_ ?_ hl⟩
    · exact if_neg hc'
    · refine ⟨?_, ?_, rfl, rfl, fun i a jl q h => by simp at h, List.nodup_nil, List.nodup_nil, by simp⟩
      · have e1 : ((sd.toNat : Nat) : Int) = sd := Int.toNat_of_nonneg (by omega)
        have e2 : ((bu.toNat : Nat) : Int) = bu := Int.toNat_of_nonneg (by omega)
        have e3 : ((qu.toNat : Nat) : Int) = qu := Int.toNat_of_nonneg (by omega)
        show upd _ _ _ L.p = some (HO.ins S L.dx (sf ((sd.toNat : Nat) : Int) ((bu.toNat : Nat) : Int) ((qu.toNat : Nat) : Int) pl _ _ _ _ _))
        rw [e1, e2, e3]
        exact upd_same
      · rw [upd_ne (Ne.symm (ne_of_none f1 hpl))]
        exact upd_same
    · refine ⟨(Kp.of s01).trans ((Kp.new hpl).trans (Kp.upd fp_p)), fun b hb => ?_⟩
      unfold Lay.fp at hb
      rcases List.mem_cons.mp hb with rfl | hb
      · exact .inl fp_p
      rcases List.mem_cons.mp hb with rfl | hb
      · exact .inr (s01.free hpl)
      · simp at hb
end
end TS
end
section
set_option Elab.async false
set_option linter.all false
set_option maxRecDepth 100000
set_option maxHeartbeats 2000000
/-! ### join, leave -/
namespace TS
open PySem PySem.Spec PyProof.Rows L2 TR
theorem iteNT {c A B : Prop} [Decidable c] (hc : ¬ c) (h : A) : if (!decide c) = true then A else B := by
  rw [decide_eq_false hc]
  exact iteT h
theorem iteDF {c A B : Prop} [Decidable c] (hc : ¬ c) (h : B) : if decide c = true then A else B := by
  rw [decide_eq_false hc]
  exact iteF h
theorem iteDT {c A B : Prop} [Decidable c] (hc : c) (h : A) : if decide c = true then A else B := by
  rw [decide_eq_true hc]
  exact iteT h
section
variable {J Pl S : Addr} {H H' : Hp} {L : Lay} {ps : List Vbwsak.Player}
theorem PsAt.snoc (h : PsAt J Pl H L ps) {x jl : Addr} {q : Vbwsak.Player} (hp : PlAt J Pl H x jl q) (nx : x ∉ L.as) (nj : jl ∉ L.js) (np : L.pl ≠ jl) (e : H' L.pl = some (.lst ((L.as ++ [x]).map V.ref))) (k : Kp [L.pl] H H') :
    PsAt J Pl H' { L with as := L.as ++ [x], js := L.js ++ [jl] } (ps ++ [q]) := by
  have kk : ∀ b o, H b = some o → b ≠ L.pl → H' b = some o := fun b o e n => k b o e (by simp [n])
  have mv : ∀ {a l : Addr} {r : Vbwsak.Player}, PlAt J Pl H a l r → l ≠ L.pl → PlAt J Pl H' a l r := fun {a l r} p n => by
    obtain ⟨⟨dx, e1⟩, cs, e2, hc⟩ := p
    refine ⟨⟨dx, kk _ _ e1 (ne_il e1 h.lst)⟩, cs, kk _ _ e2 n, hc.mono fun c o hm eo => ?_⟩
    obtain ⟨j, dy, e3⟩ := hc.get hm
    exact kk _ _ eo (ne_il e3 h.lst)
  refine ⟨e, ?_, ?_, fun m a l r ha hj hr => ?_, nodup_snoc h.na nx, nodup_snoc h.nj nj, ?_⟩
  · rw [List.length_append, List.length_append, h.la]
    rfl
  · rw [List.length_append, List.length_append, h.lj]
    rfl
  · have h1 := h.la
    have h2 := h.lj
    rcases at_snoc ha with ⟨l1, ha'⟩ | ⟨l1, rfl⟩ <;> rcases at_snoc hj with ⟨l2, hj'⟩ | ⟨l2, rfl⟩ <;> rcases at_snoc hr with ⟨l3, hr'⟩ | ⟨l3, rfl⟩ <;> first | omega | skip
    · exact mv (h.at_ m a l r ha' hj' hr') fun z => h.npl (by rw [← z]; exact List.mem_of_getElem? hj')
    · exact mv hp (Ne.symm np)
  · intro z
    rcases List.mem_append.mp z with z | z
    · exact h.npl z
    · exact np (by simpa using z)
end
section
variable {P : Program} {w : World} {K : PySem.W.Frag} {mg : Str → Option Value} {base : Heap} {J Pl S : Addr}
theorem ok_a1 (T : Txt K mg J Pl S) : FG P w K mg base 8 "answer_join" (spAns K J Pl S 1) := by
  refine FG.of (k := 7) T.d_answer_join sc_answer_join (fun vs H Q E h => by obtain ⟨_, _, _, _, _, rfl, _⟩ := h; rfl) fun f cdv A outer s H vs Q E hr h => ?_
  obtain ⟨L, st, nb, c, hn, rfl, hS, hW, hN, hl100, k⟩ := h
  cases c <;> first | cases hn | skip
  rename_i p u
  have hN : SqL K H nb [.int p, .int u] := hN
  refine ⟨_, (pss_cons (ps_if (pt_not (pt_truth (pe_fg (ok_all T) (hr.mono (by decide)) (pa_cons (pv 1) (pa_cons (pe_tup (pa_cons (pe_gt T.g_PLAYERS) (pa_cons (pe_gt T.g_WEIGHTS) pa_nil))) pa_nil))) (fun _ => rfl))) (pss_one (ps_ret (pe_lst (pa_cons (pe_g T.g_NOT_IN_RANGE) pa_nil)))) pss_nil)
      (pss_cons (ps_if (pt_cmp (pc_notN (pe_mx (pv 0) (ok_place T) (hr.mono (by decide)) (pa_cons (pe_ix ix_list (pv 1) pe_int (fun _ _ => rfl)) pa_nil)))) (pss_one (ps_ret (pe_lst (pa_cons (pe_g T.g_THERE_ALREADY) pa_nil)))) pss_nil)
      (pss_cons (ps_if (pt_cmpR op_ge (pe_callB call_len_seq rfl T.b_len PySem.boot_len (pa_cons (pe_fld (pv 0) rfl) pa_nil)) (pe_g T.g_MOST_PLAYERS) (nomark _)) (pss_one (ps_ret (pe_lst (pa_cons (pe_g T.g_NO_PLACE) pa_nil)))) pss_nil)
      (pss_cons (ps_expr (pe_bm PySem.F.plainAttrs_list PySem.F.slot_list_append PySem.F.type_list_append mt_append (pe_fld (pv 0) rfl) (pa_cons (pe_kx (ok_Player T) (hr.mono (by decide)) T.mP (pa_cons (pe_ix ix_list (pv 1) pe_int (fun _ _ => rfl)) (pa_cons (pe_ix ix_list (pv 1) pe_int (fun _ _ => rfl)) pa_nil))) pa_nil)))
      (pss_one (ps_ret (pe_lst (pa_cons pe_int (pa_cons (pe_callB call_len_seq rfl T.b_len PySem.boot_len (pa_cons (pe_fld (pv 0) rfl) pa_nil)) pa_nil))))))))), ?_⟩
  refine ⟨_, rfl, fun a1 q1 a2 q2 => ⟨by show 2 ≤ sizeLine; decide, fun t ht => ?_⟩⟩
  have s0 : Same H (upd H t (.tup [.ref a1, .ref a2])) := Same.new ht
  refine ⟨nb, t, [p, u], [a1, a2], [(1, 999), (1, 100)], rfl, s0.seq hN, .inr (SqT.of upd_same), .cons (q1 _) (.cons (q2 _) .nil), fun H1 s1 => ⟨_, tru_b _, ite2 (fun hc => ?_) fun hc => ?_⟩⟩
  · have hc' := all2.mp hc
    exact ⟨by show 1 ≤ sizeLine; decide, fun l hl => stays hS k [-1] (if_pos hc') (s0.trans s1) hl⟩
  · have hc' : ¬ (Vbwsak.from_ p 1 999 = false ∨ Vbwsak.from_ u 1 100 = false) := fun z => hc (all2.mpr z)
    have c1 := from_t fun z => hc' (.inl z)
    have c2 := from_t fun z => hc' (.inr z)
    have s01 := s0.trans s1
    have S1 := hS.same s01
    have f1 : H1 L.p = some _ := S1.ses
    have e0 : ∀ X, Vbwsak.step st (.join p u) = X ↔ (if (Vbwsak.findPlayer st p).isSome = true then Vbwsak.no st 3 else if Vbwsak.PLAYERS ≤ st.players.length then Vbwsak.no st 5 else
        Vbwsak.yes { st with players := st.players ++ [{ num := p.toNat, weight := u.toNat, jobs := [], saved := 0, served := 0 }] } [(st.players.length : Int) + 1]) = X := fun X => by
      rw [show Vbwsak.step st (.join p u) = _ from if_neg hc']
    refine ⟨_, rfl, L.p, L.dx, _, rfl, f1, rfl, _, rfl, nb, _, _, _, rfl, rfl, s01.seq hN, atI_nat (j := 0) rfl, L, st, p, rfl, S1, fun H2 s2 hnone => ?_, fun H2 i x s2 hx he hf => ?_⟩
    rotate_left
    · refine ⟨_, rfl, iteNT (by intro z; cases z) ⟨by show 1 ≤ sizeLine; decide, fun l hl => stays hS k [-3] ((e0 _).mpr (if_pos ?_)) (s01.trans s2) hl⟩⟩
      have := (find_some hx he hf).1
      unfold Vbwsak.findPlayer
      rw [this]
      rfl
    · have e1 : ¬ (Vbwsak.findPlayer st p).isSome = true := by
        unfold Vbwsak.findPlayer
        rw [find_none hnone]
        exact Bool.false_ne_true
      have s02 := s01.trans s2
      have S2 := hS.same s02
      have f2 : H2 L.p = some _ := S2.ses
      have hlen : (L.as.map V.ref).length = st.players.length := by rw [List.length_map]; exact hS.ps.la
      refine ⟨_, rfl, iteNS rfl ?_⟩
      refine ⟨_, rfl, L.p, S, L.dx, _, _, rfl, f2, T.cS, T.S3, rfl, L.pl, _, rfl, .inl (SqL.of S2.ps.lst), _, _, rfl, rfl, _, rfl, ite2 (fun hg => ?_) fun hg => ?_⟩
      · have hg' : Vbwsak.PLAYERS ≤ st.players.length := by
          have := of_decide_eq_true hg
          rw [hlen] at this
          show 8 ≤ _
          omega
        exact ⟨by show 1 ≤ sizeLine; decide, fun l hl => stays hS k [-5] ((e0 _).mpr ((if_neg e1).trans (if_pos hg'))) s02 hl⟩
      · have hg' : ¬ Vbwsak.PLAYERS ≤ st.players.length := fun z => hg (decide_eq_true (by
          have z' : 8 ≤ st.players.length := z
          rw [hlen]
          omega))
        have hN2 := s02.seq hN
        refine ⟨_, rfl, L.p, S, L.dx, _, _, rfl, f2, T.cS, T.S3, rfl, .inl ⟨rfl, _, SqL.of S2.ps.lst⟩, _, rfl, nb, _, _, _, rfl, rfl, hN2, atI_nat (j := 0) rfl, _, rfl, nb, _, _, _, rfl, rfl, hN2, atI_nat (j := 1) rfl, fun x dx hx hdx ndx => ⟨x, dx, _, _, rfl, upd_same, fun jl hjl => ⟨rfl, ?_⟩⟩⟩
        generalize hH3 : upd (upd (upd (upd H2 dx (.own x)) x (.ins Pl dx [])) jl (.lst [])) x (.ins Pl dx (pf p u jl 0 0)) = H3
        have s3 : Same H2 H3 := by
          rw [← hH3]
          exact Same.upd (Same.trans (Same.upd (Same.new hdx) hx) (Same.new hjl)) hx
        have x3 : H3 x = some (.ins Pl dx (pf p u jl 0 0)) := by rw [← hH3]; exact upd_same
        have njx : x ≠ jl := ne_of_none upd_same hjl
        have j3 : H3 jl = some (.lst []) := by rw [← hH3, upd_ne (Ne.symm njx)]; exact upd_same
        have hjl2 : H2 jl = none := (Same.upd (Same.new hdx) hx : Same H2 (upd (upd H2 dx (.own x)) x (.ins Pl dx []))).free hjl
        have S3 := S2.same s3
        have hP3 : PlAt J Pl H3 x jl { num := p.toNat, weight := u.toNat, jobs := [], saved := 0, served := 0 } := by
          refine ⟨⟨dx, ?_⟩, [], j3, rfl, fun i c j hc => by simp at hc⟩
          show H3 x = some (HO.ins Pl dx (pf ((p.toNat : Nat) : Int) ((u.toNat : Nat) : Int) jl _ _))
          rw [Int.toNat_of_nonneg (by omega), Int.toNat_of_nonneg (by omega)]
          exact x3
        have nfp : ∀ b, H2 b = none → b ∉ L.fp := fun b hb z => by
          obtain ⟨o, e⟩ := S2.some_fp z
          rw [hb] at e
          cases e
        have nx := nfp x hx
        have nj := nfp jl hjl2
        refine ⟨L.pl, _, _, rfl, rfl, S3.ps.lst, ?_, ?_⟩
        · rw [hlen, sizeLine_eq]
          have := hW.n8
          omega
        have e3 : L.as.map V.ref ++ [V.ref x] = (L.as ++ [x]).map V.ref := by rw [List.map_append]; rfl
        rw [e3]
        generalize hH4 : upd H3 L.pl (.lst ((L.as ++ [x]).map V.ref)) = H4
        have e4 : H4 L.pl = some (.lst ((L.as ++ [x]).map V.ref)) := by rw [← hH4]; exact upd_same
        have k4 : Kp [L.pl] H3 H4 := by rw [← hH4]; exact Kp.upd (by simp)
        have npl : L.p ≠ L.pl := ne_il (show H L.p = some _ from hS.ses) hS.ps.lst
        have f4 : H4 L.p = some _ := k4 _ _ S3.ses (by simp [npl])
        have S4 : SAt J Pl S H4 { L with as := L.as ++ [x], js := L.js ++ [jl] } { st with players := st.players ++ [{ num := p.toNat, weight := u.toNat, jobs := [], saved := 0, served := 0 }] } :=
          ⟨f4, S3.ps.snoc hP3 (fun z => nx (List.mem_cons_of_mem _ (List.mem_cons_of_mem _ (List.mem_append_left _ z)))) (fun z => nj (List.mem_cons_of_mem _ (List.mem_cons_of_mem _ (List.mem_append_right _ z)))) (fun z => nj (by rw [← z]; exact fp_pl)) e4 k4⟩
        refine ⟨_, rfl, L.p, S, L.dx, _, _, rfl, f4, T.cS, T.S3, rfl, L.pl, _, rfl, .inl (SqL.of e4), by show 2 ≤ sizeLine; decide, fun l hl => ?_⟩
        have q := turns (L1 := { L with as := L.as ++ [x], js := L.js ++ [jl] }) k [0, (st.players.length : Int) + 1] ((e0 _).mpr ((if_neg e1).trans (if_neg hg'))) rfl S4 ⟨?_, ?_⟩ hl
        · have e5 : ((((L.as ++ [x]).map V.ref).length : Nat) : Int) = (st.players.length : Int) + 1 := by
            rw [List.length_map, List.length_append, hS.ps.la]
            rfl
          rw [e5]
          exact q
        · exact (Kp.of (s02.trans s3)).trans (k4.sub fun b hb => by rw [List.mem_singleton.mp hb]; exact fp_pl)
        · intro b hb
          unfold Lay.fp at hb
          rcases List.mem_cons.mp hb with rfl | hb
          · exact .inl fp_p
          rcases List.mem_cons.mp hb with rfl | hb
          · exact .inl fp_pl
          rcases List.mem_append.mp hb with hb | hb
          · rcases List.mem_append.mp hb with hb | hb
            · exact .inl (List.mem_cons_of_mem _ (List.mem_cons_of_mem _ (List.mem_append_left _ hb)))
            · rw [List.mem_singleton.mp hb]
              exact .inr (s02.free hx)
          · rcases List.mem_append.mp hb with hb | hb
            · exact .inl (List.mem_cons_of_mem _ (List.mem_cons_of_mem _ (List.mem_append_right _ hb)))
            · rw [List.mem_singleton.mp hb]
              exact .inr (s02.free hjl2)
end
end TS
end
section
set_option Elab.async false
set_option linter.all false
set_option maxRecDepth 100000
set_option maxHeartbeats 2000000
/-! ### leave, job, drop, tick -/
namespace TS
open PySem PySem.Spec PyProof.Rows L2 TR
theorem removed_eq {s : Vbwsak.State} (h : WF s) {i : Nat} (hi : i < s.players.length) : removed s i =
    { s with players := s.players.eraseIdx i, at_ := if s.players.length - 1 = 0 then 0 else if i < s.at_ then s.at_ - 1 else if s.at_ < s.players.length - 1 then s.at_ else 0, begun := s.begun && i != s.at_ } := by
  unfold removed
  have hl : (s.players.eraseIdx i).length = s.players.length - 1 := by
    rw [List.length_eraseIdx, if_pos hi]
  have ha := h.at_lt (fun z => by rw [z] at hi; cases hi)
  rw [hl]
  have e1 : (if i = s.at_ then (if i < s.players.length - 1 then i else 0) else if i < s.at_ then s.at_ - 1 else s.at_) = if s.players.length - 1 = 0 then 0 else if i < s.at_ then s.at_ - 1 else if s.at_ < s.players.length - 1 then s.at_ else 0 := by
    by_cases a1 : i = s.at_
    · rw [if_pos a1, if_neg (show ¬ i < s.at_ by omega), a1]
      split <;> split <;> first | rfl | omega | (split <;> omega)
    · rw [if_neg a1]
      by_cases a2 : i < s.at_
      · rw [if_pos a2, if_pos a2]
        split <;> omega
      · rw [if_neg a2, if_neg a2, if_pos (show s.at_ < s.players.length - 1 by omega), if_neg (show ¬ s.players.length - 1 = 0 by omega)]
  have e2 : (if i = s.at_ then false else s.begun) = (s.begun && i != s.at_) := by
    by_cases a1 : i = s.at_
    · rw [if_pos a1, a1]
      simp
    · rw [if_neg a1]
      have : (i != s.at_) = true := by simp [a1]
      rw [this, Bool.and_true]
  rw [e1, e2]
section
variable {P : Program} {w : World} {K : PySem.W.Frag} {mg : Str → Option Value} {base : Heap} {J Pl S : Addr}
theorem ok_a2 (T : Txt K mg J Pl S) : FG P w K mg base 8 "answer_leave" (spAns K J Pl S 2) := by
  refine FG.of (k := 7) T.d_answer_leave sc_answer_leave (fun vs H Q E h => by obtain ⟨_, _, _, _, _, rfl, _⟩ := h; rfl) fun f cdv A outer s H vs Q E hr h => ?_
  obtain ⟨L, st, nb, c, hn, rfl, hS, hW, hN, hl100, k⟩ := h
  cases c <;> first | cases hn | skip
  rename_i p
  have hN : SqL K H nb [.int p] := hN
  have f0 : H L.p = some _ := hS.ses
  refine ⟨_, (pss_cons (ps_set (i := 2) sc_answer_leave.nd rfl (Or.inl rfl) (pe_mx (pv 0) (ok_place T) (hr.mono (by decide)) (pa_cons (pe_ix ix_list (pv 1) pe_int (fun _ _ => rfl)) pa_nil)))
      (pss_cons (ps_if (pt_cmp (pc_isN (pv 2))) (pss_one (ps_ret (pe_lst (pa_cons (pe_g T.g_NOT_THERE) pa_nil)))) pss_nil)
      (pss_cons (ps_set (i := 3) sc_answer_leave.nd rfl (Or.inl rfl) (pe_callB call_len_seq rfl T.b_len PySem.boot_len (pa_cons (pe_fld (pe_ix ix_list (pe_fld (pv 0) rfl) (pv 2) (fun _ _ => rfl)) rfl) pa_nil)))
      (pss_cons (ps_expr (pe_mx (pv 0) (ok_remove T) (hr.mono (by decide)) (pa_cons (pv 2) pa_nil)))
      (pss_one (ps_ret (pe_lst (pa_cons pe_int (pa_cons (pv 3) pa_nil))))))))), ?_⟩
  refine ⟨_, rfl, L.p, L.dx, _, rfl, f0, rfl, _, rfl, nb, _, _, _, rfl, rfl, hN, atI_nat (j := 0) rfl, L, st, p, rfl, hS, fun H1 s1 hnone => ?_, fun H1 i x s1 hx he hf => ?_⟩
  · have e : Vbwsak.step st (.leave p) = (st, [-2]) := by
      show (match Vbwsak.findPlayer st p with | none => _ | some x => _) = _
      unfold Vbwsak.findPlayer
      rw [find_none hnone]
      rfl
    exact ⟨_, rfl, _, rfl, iteT ⟨by show 1 ≤ sizeLine; decide, fun l hl => stays hS k [-2] e s1 hl⟩⟩
  · have S1 := hS.same s1
    have f1 : H1 L.p = some _ := S1.ses
    obtain ⟨a, jl, ha, hj, ⟨dp, hP⟩, cs, hcs, hJ⟩ := S1.ps.player hx
    have hi : i < st.players.length := (List.getElem?_eq_some_iff.mp hx).1
    obtain ⟨g1, g2⟩ := find_some hx he hf
    have e : Vbwsak.step st (.leave p) = (removed st i, [0, (x.jobs.length : Int)]) := by
      rw [removed_eq hW hi]
      show (match Vbwsak.findPlayer st p with | none => _ | some x => _) = _
      unfold Vbwsak.findPlayer
      rw [g1]
      dsimp only
      unfold Vbwsak.placeIn
      rw [g2]
      rfl
    refine ⟨_, rfl, _, rfl, iteF ?_⟩
    refine ⟨_, rfl, L.p, S, L.dx, _, _, rfl, f1, T.cS, T.S3, rfl, _, rfl, L.pl, _, _, _, rfl, rfl, SqL.of S1.ps.lst, atI_nat (refs_at ha), a, Pl, dp, _, _, rfl, hP, T.cP, T.P2, rfl, jl, _, rfl, .inl (SqL.of hcs), ?_⟩
    refine ⟨_, rfl, L.p, L.dx, _, rfl, f1, rfl, _, rfl, L, st, i, rfl, S1, hi, hW.n8, fun H2 L2' hp S2 c2 => ?_⟩
    refine ⟨_, rfl, by show 2 ≤ sizeLine; decide, fun l hl => ?_⟩
    have q := turns k [0, (x.jobs.length : Int)] e hp S2 ((Ch.of (Kp.of s1)).trans c2) hl
    rw [List.length_map, hJ.len]
    exact q
theorem ok_a3 (T : Txt K mg J Pl S) : FG P w K mg base 8 "answer_job" (spAns K J Pl S 3) := by
  refine FG.of (k := 7) T.d_answer_job sc_answer_job (fun vs H Q E h => by obtain ⟨_, _, _, _, _, rfl, _⟩ := h; rfl) fun f cdv A outer s H vs Q E hr h => ?_
  obtain ⟨L, st, nb, c, hn, rfl, hS, hW, hN, hl100, k⟩ := h
  cases c <;> first | cases hn | skip
  rename_i p th co sd
  have hN : SqL K H nb [.int p, .int th, .int co, .int sd] := hN
  refine ⟨_, (pss_cons (ps_if (pt_not (pt_truth (pe_fg (ok_all T) (hr.mono (by decide)) (pa_cons (pe_slice sl_list (pv 1) (po_some pe_int) po_none) (pa_cons (pe_tup (pa_cons (pe_gt T.g_THINGS) (pa_cons (pe_gt T.g_COSTS) (pa_cons (pe_gt T.g_SIDES) pa_nil)))) pa_nil))) (fun _ => rfl))) (pss_one (ps_ret (pe_lst (pa_cons (pe_g T.g_NOT_IN_RANGE) pa_nil)))) pss_nil)
      (pss_cons (ps_set (i := 2) sc_answer_job.nd rfl (Or.inl rfl) (pe_mx (pv 0) (ok_find T) (hr.mono (by decide)) (pa_cons (pe_ix ix_list (pv 1) pe_int (fun _ _ => rfl)) pa_nil)))
      (pss_cons (ps_if (pt_cmp (pc_isN (pv 2))) (pss_one (ps_ret (pe_lst (pa_cons (pe_g T.g_NOT_THERE) pa_nil)))) pss_nil)
      (pss_cons (ps_if (pt_cmpR op_ge (pe_mx0 (pv 0) (ok_count T) (hr.mono (by decide))) (pe_g T.g_MOST_JOBS) (nomark _)) (pss_one (ps_ret (pe_lst (pa_cons (pe_g T.g_NO_PLACE) pa_nil)))) pss_nil)
      (pss_cons (ps_set (i := 3) sc_answer_job.nd rfl (Or.inl rfl) (pe_mx (pv 0) (ok_add T) (hr.mono (by decide)) (pa_cons (pv 2) (pa_cons (pe_ix ix_list (pv 1) pe_int (fun _ _ => rfl)) (pa_cons (pe_ix ix_list (pv 1) pe_int (fun _ _ => rfl)) (pa_cons (pe_ix ix_list (pv 1) pe_int (fun _ _ => rfl)) pa_nil))))))
      (pss_one (ps_ret (pe_lst (pa_cons pe_int (pa_cons (pe_fld (pv 3) rfl) pa_nil)))))))))), ?_⟩
  refine ⟨_, rfl, 1, rfl, nb, _, rfl, hN, fun n1 hn1 => ?_⟩
  have e1 : cutV [.int p, .int th, .int co, .int sd] (some 1) none = [.int th, .int co, .int sd] := rfl
  rw [e1]
  have sa : Same H (upd H n1 (.lst [.int th, .int co, .int sd])) := Same.new hn1
  refine fun a1 q1 a2 q2 a3 q3 => ⟨by show 3 ≤ sizeLine; decide, fun t ht => ?_⟩
  have s0 : Same _ (upd (upd H n1 (.lst [.int th, .int co, .int sd])) t (.tup [.ref a1, .ref a2, .ref a3])) := Same.new ht
  refine ⟨n1, t, [th, co, sd], [a1, a2, a3], [(0, 1000000), (1, 10000), (1, 1000000000)], rfl, s0.seq (SqL.of upd_same), .inr (SqT.of upd_same), .cons (q1 _) (.cons (q2 _) (.cons (q3 _) .nil)), fun H1 s1 => ⟨_, tru_b _, ite2 (fun hc => ?_) fun hc => ?_⟩⟩
  · have hc' := all3.mp hc
    exact ⟨by show 1 ≤ sizeLine; decide, fun l hl => stays hS k [-1] (if_pos hc') ((sa.trans s0).trans s1) hl⟩
  · have hc' : ¬ (Vbwsak.from_ th 0 1000000 = false ∨ Vbwsak.from_ co 1 10000 = false ∨ Vbwsak.from_ sd 1 1000000000 = false) := fun z => hc (all3.mpr z)
    obtain ⟨c1, c2, c3⟩ := not_or3 hc'
    have c1 := from_t c1
    have c2 := from_t c2
    have c3 := from_t c3
    have s01 := (sa.trans s0).trans s1
    have S1 := hS.same s01
    have f1 : H1 L.p = some _ := S1.ses
    have e0 : Vbwsak.step st (.job p th co sd) = (match Vbwsak.findPlayer st p with
      | none => Vbwsak.no st 2
      | some x => if Vbwsak.JOBS ≤ Vbwsak.jobsIn st.players then Vbwsak.no st 5 else
        Vbwsak.yes { Vbwsak.setPlayer st { x with jobs := x.jobs ++ [{ num := st.next, thing := th.toNat, cost := co.toNat, sides := sd.toNat }] } with next := st.next + 1 } [(st.next : Int)]) := if_neg hc'
    refine ⟨_, rfl, L.p, L.dx, _, rfl, f1, rfl, _, rfl, nb, _, _, _, rfl, rfl, s01.seq hN, atI_nat (j := 0) rfl, L, st, p, rfl, S1, fun H2 s2 hnone => ?_, fun H2 i x a s2 hx ha he hf => ?_⟩
    · have e : Vbwsak.step st (.job p th co sd) = (st, [-2]) := by
        rw [e0]
        unfold Vbwsak.findPlayer
        rw [find_none hnone]
        rfl
      exact ⟨_, rfl, _, rfl, iteT ⟨by show 1 ≤ sizeLine; decide, fun l hl => stays hS k [-2] e (s01.trans s2) hl⟩⟩
    · have s02 := s01.trans s2
      have S2 := hS.same s02
      have f2 : H2 L.p = some _ := S2.ses
      have e2 : Vbwsak.findPlayer st p = some x := (find_some hx he hf).1
      rw [e2] at e0
      refine ⟨_, rfl, _, rfl, iteF ?_⟩
      refine ⟨_, rfl, L.p, L.dx, _, rfl, f2, rfl, L, st, rfl, S2, hW.n8, fun H3 s3 => ⟨_, _, rfl, rfl, _, rfl, ite2 (fun hg => ?_) fun hg => ?_⟩⟩
      · have hg' : Vbwsak.JOBS ≤ Vbwsak.jobsIn st.players := by
          have := of_decide_eq_true hg
          show 64 ≤ _
          omega
        exact ⟨by show 1 ≤ sizeLine; decide, fun l hl => stays hS k [-5] (e0.trans (if_pos hg')) (s02.trans s3) hl⟩
      · have hg' : ¬ Vbwsak.JOBS ≤ Vbwsak.jobsIn st.players := fun z => hg (decide_eq_true (by
          have z' : 64 ≤ Vbwsak.jobsIn st.players := z
          omega))
        have s03 := s02.trans s3
        have S3 := hS.same s03
        have f3 : H3 L.p = some _ := S3.ses
        have hN3 := s03.seq hN
        have hxl : x.jobs.length < 64 := by
          have h1 := jobsIn_set { x with jobs := [] } hx
          have h3 : ({ x with jobs := [] } : Vbwsak.Player).jobs.length = 0 := rfl
          have h4 : ¬ 64 ≤ Vbwsak.jobsIn st.players := hg'
          omega
        have e : Vbwsak.step st (.job p th co sd) = (added st i x th.toNat co.toNat sd.toNat, [0, (st.next : Int)]) := by
          rw [e0]
          refine (if_neg hg').trans ?_
          exact congrArg (fun l => (({ st with players := l, next := st.next + 1 } : Vbwsak.State), [0, (st.next : Int)])) (set_by_num (p' := { x with jobs := x.jobs ++ [{ num := st.next, thing := th.toNat, cost := co.toNat, sides := sd.toNat }] }) hW.pw hx rfl)
        refine ⟨_, rfl, L.p, L.dx, _, rfl, f3, rfl, _, rfl, _, rfl, nb, _, _, _, rfl, rfl, hN3, atI_nat (j := 1) rfl, _, rfl, nb, _, _, _, rfl, rfl, hN3, atI_nat (j := 2) rfl, _, rfl, nb, _, _, _, rfl, rfl, hN3, atI_nat (j := 3) rfl, L, st, i, a, x, th.toNat, co.toNat, sd.toNat, ?_, S3, ha, hx, hxl, fun H4 y S4 k4 hy => ?_⟩
        · rw [Int.toNat_of_nonneg (by omega), Int.toNat_of_nonneg (by omega), Int.toNat_of_nonneg (by omega)]
        · obtain ⟨dy, ey⟩ := hy
          refine ⟨_, rfl, y, J, dy, _, _, rfl, ey, T.cJ, T.J0, rfl, by show 2 ≤ sizeLine; decide, fun l hl => ?_⟩
          exact turns k [0, (st.next : Int)] e rfl S4 (Ch.of ((Kp.of s03).trans k4)) hl
theorem ok_a4 (T : Txt K mg J Pl S) : FG P w K mg base 8 "answer_drop" (spAns K J Pl S 4) := by
  refine FG.of (k := 7) T.d_answer_drop sc_answer_drop (fun vs H Q E h => by obtain ⟨_, _, _, _, _, rfl, _⟩ := h; rfl) fun f cdv A outer s H vs Q E hr h => ?_
  obtain ⟨L, st, nb, c, hn, rfl, hS, hW, hN, hl100, k⟩ := h
  cases c <;> first | cases hn | skip
  rename_i n
  have hN : SqL K H nb [.int n] := hN
  have f0 : H L.p = some _ := hS.ses
  refine ⟨_, (pss_cons (ps_if (pt_not (pt_truth (pe_mx (pv 0) (ok_drop T) (hr.mono (by decide)) (pa_cons (pe_ix ix_list (pv 1) pe_int (fun _ _ => rfl)) pa_nil)) (fun _ => rfl))) (pss_one (ps_ret (pe_lst (pa_cons (pe_g T.g_NOT_THERE) pa_nil)))) pss_nil)
      (pss_one (ps_ret (pe_lst (pa_cons pe_int pa_nil))))), ?_⟩
  refine ⟨_, rfl, L.p, L.dx, _, rfl, f0, rfl, _, rfl, nb, _, _, _, rfl, rfl, hN, atI_nat (j := 0) rfl, L, st, n, rfl, hS, hW, fun H1 s1 hnone => ⟨_, tru_b _, iteT ?_⟩, fun H1 i m x j hx hj he S1 k1 => ⟨_, tru_b _, iteF ?_⟩⟩
  · have e : Vbwsak.step st (.drop n) = (st, [-2]) := by
      refine if_pos ?_
      rcases job_cases st.players n with ⟨h1, _⟩ | ⟨i, p, h1, ⟨j, h2, h3⟩, _⟩
      · exact h1
      · exact absurd h3 (hnone i p h1 j h2)
    exact ⟨by show 1 ≤ sizeLine; decide, fun l hl => stays hS k [-2] e s1 hl⟩
  · have e : Vbwsak.step st (.drop n) = ({ st with players := st.players.set i (dropped x m) }, [0]) := by
      have h1 : ¬ (st.players.any fun p => p.jobs.any fun x => (x.num : Int) == n) = false := by
        rcases job_cases st.players n with ⟨_, h2⟩ | ⟨_, _, _, _, h3, _⟩
        · exact absurd he (h2 i x hx j (List.mem_of_getElem? hj))
        · rw [h3]
          exact fun z => Bool.noConfusion z
      refine (if_neg h1).trans ?_
      unfold Vbwsak.yes
      rw [← drop_set hW.pw hx hj, he]
    exact ⟨by show 1 ≤ sizeLine; decide, fun l hl => turns k [0] e rfl S1 (Ch.of k1) hl⟩
theorem ok_a5 (T : Txt K mg J Pl S) : FG P w K mg base 8 "answer_tick" (spAns K J Pl S 5) := by
  refine FG.of (k := 7) T.d_answer_tick sc_answer_tick (fun vs H Q E h => by obtain ⟨_, _, _, _, _, rfl, _⟩ := h; rfl) fun f cdv A outer s H vs Q E hr h => ?_
  obtain ⟨L, st, nb, c, hn, rfl, hS, hW, hN, hl100, k⟩ := h
  cases c <;> first | cases hn | skip
  rename_i n
  have hN : SqL K H nb [.int n] := hN
  refine ⟨_, (pss_cons (ps_if (pt_not (pt_truth (pe_fg (ok_all T) (hr.mono (by decide)) (pa_cons (pv 1) (pa_cons (pe_tup (pa_cons (pe_gt T.g_TICKS_AT_ONCE) pa_nil)) pa_nil))) (fun _ => rfl))) (pss_one (ps_ret (pe_lst (pa_cons (pe_g T.g_NOT_IN_RANGE) pa_nil)))) pss_nil)
      (pss_cons (ps_if (pt_cmpR op_gt (pe_op op_add (pe_fld (pv 0) rfl) (pe_ix ix_list (pv 1) pe_int (fun _ _ => rfl))) (pe_g T.g_LAST_TICK) (nomark _)) (pss_one (ps_ret (pe_lst (pa_cons (pe_g T.g_NO_PLACE) pa_nil)))) pss_nil)
      (pss_cons (ps_set (i := 2) sc_answer_tick.nd rfl (Or.inl rfl) (pe_mx (pv 0) (ok_ticks T) (hr.mono (by decide)) (pa_cons (pe_ix ix_list (pv 1) pe_int (fun _ _ => rfl)) pa_nil)))
      (pss_one (ps_ret (pe_op op_cat (pe_lst (pa_cons pe_int (pa_cons (pe_fld (pv 0) rfl) pa_nil))) (pv 2))))))), ?_⟩
  refine ⟨_, rfl, fun a1 q1 => ⟨by show 1 ≤ sizeLine; decide, fun t ht => ?_⟩⟩
  have s0 : Same H (upd H t (.tup [.ref a1])) := Same.new ht
  refine ⟨nb, t, [n], [a1], [(1, 20)], rfl, s0.seq hN, .inr (SqT.of upd_same), .cons (q1 _) .nil, fun H1 s1 => ⟨_, tru_b _, ite2 (fun hc => ?_) fun hc => ?_⟩⟩
  · have hc' := all1.mp hc
    exact ⟨by show 1 ≤ sizeLine; decide, fun l hl => stays hS k [-1] (if_pos hc') (s0.trans s1) hl⟩
  · have hc' : ¬ Vbwsak.from_ n 1 20 = false := fun z => hc (all1.mpr z)
    have c1 := from_t hc'
    have s01 := s0.trans s1
    have S1 := hS.same s01
    have f1 : H1 L.p = some _ := S1.ses
    have hN1 := s01.seq hN
    refine ⟨_, rfl, L.p, S, L.dx, _, _, rfl, f1, T.cS, T.S4, rfl, _, rfl, nb, _, _, _, rfl, rfl, hN1, atI_nat (j := 0) rfl, _, _, rfl, rfl, _, _, rfl, rfl, _, rfl, ite2 (fun hg => ?_) fun hg => ?_⟩
    · have hg' : Vbwsak.FARTICK < (st.tick : Int) + n := of_decide_eq_true hg
      exact ⟨by show 1 ≤ sizeLine; decide, fun l hl => stays hS k [-5] ((if_neg hc').trans (if_pos hg')) s01 hl⟩
    · have hg' : ¬ Vbwsak.FARTICK < (st.tick : Int) + n := fun z => hg (decide_eq_true z)
      have hnn : ((n.toNat : Nat) : Int) = n := Int.toNat_of_nonneg (by omega)
      refine ⟨_, rfl, L.p, L.dx, _, rfl, f1, rfl, _, rfl, nb, _, _, _, rfl, rfl, hN1, atI_nat (j := 0) rfl, L, st, n.toNat, by rw [hnn], by omega, S1, hW, fun H2 r2 S2 e2 k2 => ?_⟩
      have f2 : H2 L.p = some _ := S2.ses
      refine ⟨_, rfl, L.p, S, L.dx, _, _, rfl, f2, T.cS, T.S4, rfl, by show 2 ≤ sizeLine; decide, fun l1 hl1 => ?_⟩
      have sl : Same H2 (upd H2 l1 (.lst [.int 0, .int ((Vbwsak.tickedBy n.toNat st).1.tick : Nat)])) := Same.new hl1
      have e : Vbwsak.step st (.tick n) = ((Vbwsak.tickedBy n.toNat st).1, 0 :: ((Vbwsak.tickedBy n.toNat st).1.tick : Int) :: Vbwsak.doneRow (Vbwsak.tickedBy n.toNat st).2) := (if_neg hc').trans (if_neg hg')
      refine ⟨_, rfl, l1, r2, _, _, rfl, rfl, upd_same, sl _ _ e2, ?_, fun l hl => ?_⟩
      · have := (WF.tickedBy n.toNat hW).2.1
        have := hW.j64
        rw [rowVals_len, sizeLine_eq]
        show 2 + _ ≤ _
        omega
      · have q := turns k _ e rfl (S2.same sl) ((Ch.of (Kp.of s01)).trans ((Ch.of k2).trans (Ch.of (Kp.of sl)))) hl
        exact q
end
end TS
end
section
set_option Elab.async false
set_option linter.all false
set_option maxRecDepth 100000
set_option maxHeartbeats 2000000
/-! ### queue, players, weigh, draw, raw, shuffle, bound, try, state -/
namespace TS
open PySem PySem.Spec PyProof.Rows L2 TR
def jobRow (l : List Vbwsak.Job) : List Int := l.flatMap fun j => [(j.num : Int), (j.thing : Int), (j.cost : Int), (j.sides : Int)]
def plRow (l : List Vbwsak.Player) : List Int := l.flatMap fun p => [(p.num : Int), (p.weight : Int), (p.jobs.length : Int), (p.saved : Int), (p.served : Int)]
theorem flat_snoc {α : Type} (g : α → List Int) {l : List α} {i : Nat} {x : α} (h : l[i]? = some x) : (l.take (i + 1)).flatMap g = (l.take i).flatMap g ++ g x := by
  rw [take_snoc h, List.flatMap_append]
  congr 1
  simp
theorem flat_len {α : Type} (g : α → List Int) (m : Nat) (h : ∀ x, (g x).length = m) : ∀ l : List α, (l.flatMap g).length = m * l.length
  | [] => rfl
  | x :: l => by
    rw [List.flatMap_cons, List.length_append, h, flat_len g m h l, List.length_cons, Nat.mul_succ]
    omega
section
variable {P : Program} {w : World} {K : PySem.W.Frag} {mg : Str → Option Value} {base : Heap} {J Pl S : Addr}
theorem ok_a6 (T : Txt K mg J Pl S) : FG P w K mg base 8 "answer_queue" (spAns K J Pl S 6) := by
  refine FG.of (k := 7) T.d_answer_queue sc_answer_queue (fun vs H Q E h => by obtain ⟨_, _, _, _, _, rfl, _⟩ := h; rfl) fun f cdv A outer s H vs Q E hr h => ?_
  obtain ⟨L, st, nb, c, hn, rfl, hS, hW, hN, hl100, k⟩ := h
  cases c <;> first | cases hn | skip
  rename_i p
  have hN : SqL K H nb [.int p] := hN
  have f0 : H L.p = some _ := hS.ses
  refine ⟨_, (pss_cons (ps_set (i := 2) sc_answer_queue.nd rfl (Or.inl rfl) (pe_mx (pv 0) (ok_find T) (hr.mono (by decide)) (pa_cons (pe_ix ix_list (pv 1) pe_int (fun _ _ => rfl)) pa_nil)))
      (pss_cons (ps_if (pt_cmp (pc_isN (pv 2))) (pss_one (ps_ret (pe_lst (pa_cons (pe_g T.g_NOT_THERE) pa_nil)))) pss_nil)
      (pss_cons (ps_set (i := 3) sc_answer_queue.nd rfl (Or.inl rfl) (pe_lst (pa_cons pe_int pa_nil)))
      (pss_cons (ps_for PassesOwn.never rfl (pi_list (pe_fld (pv 2) rfl)) (pg_name (i := 4) sc_answer_queue.nd rfl (Or.inl rfl))
      (pss_one (ps_expr (pe_bm PySem.F.plainAttrs_list PySem.F.slot_list_extend PySem.F.type_list_extend mt_extend (pv 3) (pa_cons (pe_lst (pa_cons (pe_fld (pv 4) rfl) (pa_cons (pe_fld (pv 4) rfl) (pa_cons (pe_fld (pv 4) rfl) (pa_cons (pe_fld (pv 4) rfl) pa_nil))))) pa_nil)))))
      (pss_one (ps_ret (pv 3))))))), ?_⟩
  refine ⟨_, rfl, L.p, L.dx, _, rfl, f0, rfl, _, rfl, nb, _, _, _, rfl, rfl, hN, atI_nat (j := 0) rfl, L, st, p, rfl, hS, fun H1 s1 hnone => ?_, fun H1 i x a s1 hx ha he hf => ?_⟩
  · have e : Vbwsak.step st (.queue p) = (st, [-2]) := by
      show (match Vbwsak.findPlayer st p with | none => _ | some x => _) = _
      unfold Vbwsak.findPlayer
      rw [find_none hnone]
      rfl
    exact ⟨_, rfl, _, rfl, iteT ⟨by show 1 ≤ sizeLine; decide, fun l hl => stays hS k [-2] e s1 hl⟩⟩
  · have e : Vbwsak.step st (.queue p) = (st, 0 :: jobRow x.jobs) := by
      show (match Vbwsak.findPlayer st p with | none => _ | some x => _) = _
      unfold Vbwsak.findPlayer
      rw [(find_some hx he hf).1]
      rfl
    have S1 := hS.same s1
    obtain ⟨jl, q, hj, hq, ⟨dp, hP⟩, cs, hcs, hJ⟩ := S1.ps.of_as ha
    have eq : q = x := Option.some.inj (hq.symm.trans hx)
    subst eq
    have h64 := jobs_le hW hx
    refine ⟨_, rfl, _, rfl, iteF ?_⟩
    refine ⟨by show 1 ≤ sizeLine; decide, fun rw hrw => ?_⟩
    have s2 : Same H1 (upd H1 rw (.lst [.int 0])) := Same.new hrw
    refine ⟨_, rfl, a, Pl, dp, _, _, rfl, s2 _ _ hP, T.cP, T.P2, rfl, jl, rfl, ⟨_, SqL.of (s2 _ _ hcs)⟩, for_list (K := K) (a := jl) (xs := cs.map V.ref) (fun i σ H' => ∃ v4 : Option V, σ = [some (.ref L.p), some (.ref nb), some (.ref a), some (.ref rw), v4] ∧ Same H1 H' ∧ H' rw = some (.lst ((0 :: jobRow (q.jobs.take i)).map V.int))) ⟨none, rfl, s2, upd_same⟩ (fun i σ H' _ ⟨_, _, sm, _⟩ => sm.seq (SqL.of hcs)) ?_ ?_⟩
    · rintro m y σ H' hi ⟨v4, rfl, sm, hr'⟩
      obtain ⟨cc, hc, rfl⟩ := at_refs hi
      have hml : m < q.jobs.length := by rw [← hJ.len]; exact (List.getElem?_eq_some_iff.mp hc).1
      have hjm : q.jobs[m]? = some q.jobs[m] := List.getElem?_eq_getElem hml
      obtain ⟨dy, ey⟩ := hJ.at_ m cc _ hc hjm
      have ey' := sm _ _ ey
      refine ⟨_, rfl, .inl ⟨rfl, _, SqL.of hr'⟩, _, rfl, cc, J, dy, _, _, rfl, ey', T.cJ, T.J0, rfl, _, rfl, cc, J, dy, _, _, rfl, ey', T.cJ, T.J1, rfl, _, rfl, cc, J, dy, _, _, rfl, ey', T.cJ, T.J2, rfl, _, rfl, cc, J, dy, _, _, rfl, ey', T.cJ, T.J3, rfl, by show 4 ≤ sizeLine; decide, fun l hl => ?_⟩
      refine ⟨rw, l, _, _, rfl, rfl, Same.new hl _ _ hr', upd_same, ?_, ?_⟩
      · unfold jobRow
        rw [List.length_map, List.length_cons, flat_len _ 4 (fun _ => rfl), List.length_take, sizeLine_eq]
        show _ + 4 ≤ _
        omega
      · refine ⟨_, rfl, fun b o eb => ?_, ?_⟩
        · rw [upd_ne (ne_of_none eb hrw)]
          exact Same.new hl _ _ (sm _ _ eb)
        · rw [upd_same]
          unfold jobRow
          rw [flat_snoc _ hjm]
          simp
    · rintro σ H' ⟨v4, rfl, sm, hr'⟩
      rw [List.length_map, hJ.len, List.take_length] at hr'
      rw [e] at k
      have sH := s1.trans sm
      exact ⟨_, rfl, k H' L rw rfl (hS.same sH) (Ch.of (Kp.of sH)) hr' (Fr.of (Kp.of s1) hrw)⟩
theorem ok_a7 (T : Txt K mg J Pl S) : FG P w K mg base 8 "answer_players" (spAns K J Pl S 7) := by
  refine FG.of (k := 7) T.d_answer_players sc_answer_players (fun vs H Q E h => by obtain ⟨_, _, _, _, _, rfl, _⟩ := h; rfl) fun f cdv A outer s H vs Q E hr h => ?_
  obtain ⟨L, st, nb, c, hn, rfl, hS, hW, hN, hl100, k⟩ := h
  cases c <;> first | cases hn | skip
  have f0 : H L.p = some _ := hS.ses
  have h8 := hW.n8
  refine ⟨_, (pss_cons (ps_set (i := 2) sc_answer_players.nd rfl (Or.inl rfl) (pe_lst (pa_cons pe_int pa_nil)))
      (pss_cons (ps_for PassesOwn.never rfl (pi_list (pe_fld (pv 0) rfl)) (pg_name (i := 3) sc_answer_players.nd rfl (Or.inl rfl))
      (pss_one (ps_expr (pe_bm PySem.F.plainAttrs_list PySem.F.slot_list_extend PySem.F.type_list_extend mt_extend (pv 2) (pa_cons (pe_lst (pa_cons (pe_fld (pv 3) rfl) (pa_cons (pe_fld (pv 3) rfl) (pa_cons (pe_callB call_len_seq rfl T.b_len PySem.boot_len (pa_cons (pe_fld (pv 3) rfl) pa_nil)) (pa_cons (pe_fld (pv 3) rfl) (pa_cons (pe_fld (pv 3) rfl) pa_nil)))))) pa_nil)))))
      (pss_one (ps_ret (pv 2))))), ?_⟩
  refine ⟨by show 1 ≤ sizeLine; decide, fun rw hrw => ?_⟩
  have s2 : Same H (upd H rw (.lst [.int 0])) := Same.new hrw
  refine ⟨_, rfl, L.p, S, L.dx, _, _, rfl, s2 _ _ f0, T.cS, T.S3, rfl, L.pl, rfl, ⟨_, SqL.of (s2 _ _ hS.ps.lst)⟩, for_list (K := K) (a := L.pl) (xs := L.as.map V.ref) (fun i σ H' => ∃ v3 : Option V, σ = [some (.ref L.p), some (.ref nb), some (.ref rw), v3] ∧ Same H H' ∧ H' rw = some (.lst ((0 :: plRow (st.players.take i)).map V.int))) ⟨none, rfl, s2, upd_same⟩ (fun i σ H' _ ⟨_, _, sm, _⟩ => sm.seq (SqL.of hS.ps.lst)) ?_ ?_⟩
  · rintro m y σ H' hi ⟨v4, rfl, sm, hr'⟩
    obtain ⟨a, ha, rfl⟩ := at_refs hi
    obtain ⟨jl, q, hj, hq, ⟨dp, hP⟩, cs, hcs, hJ⟩ := hS.ps.of_as ha
    have hP' := sm _ _ hP
    refine ⟨_, rfl, .inl ⟨rfl, _, SqL.of hr'⟩, _, rfl, a, Pl, dp, _, _, rfl, hP', T.cP, T.P0, rfl, _, rfl, a, Pl, dp, _, _, rfl, hP', T.cP, T.P1, rfl, _, rfl, a, Pl, dp, _, _, rfl, hP', T.cP, T.P2, rfl, jl, _, rfl, .inl (SqL.of (sm _ _ hcs)), _, rfl, a, Pl, dp, _, _, rfl, hP', T.cP, T.P3, rfl, _, rfl, a, Pl, dp, _, _, rfl, hP', T.cP, T.P4, rfl, by show 5 ≤ sizeLine; decide, fun l hl => ?_⟩
    refine ⟨rw, l, _, _, rfl, rfl, Same.new hl _ _ hr', upd_same, ?_, ?_⟩
    · unfold plRow
      rw [List.length_map, List.length_cons, flat_len _ 5 (fun _ => rfl), List.length_take, sizeLine_eq]
      show _ + 5 ≤ _
      omega
    · refine ⟨_, rfl, fun b o eb => ?_, ?_⟩
      · rw [upd_ne (ne_of_none eb hrw)]
        exact Same.new hl _ _ (sm _ _ eb)
      · rw [upd_same]
        unfold plRow
        rw [flat_snoc _ hq, List.length_map, hJ.len]
        simp
  · rintro σ H' ⟨v4, rfl, sm, hr'⟩
    rw [List.length_map, hS.ps.la, List.take_length] at hr'
    exact ⟨_, rfl, k H' L rw rfl (hS.same sm) (Ch.of (Kp.of sm)) hr' (Fr.of (Kp.refl H) hrw)⟩
theorem ok_a8 (T : Txt K mg J Pl S) : FG P w K mg base 8 "answer_weigh" (spAns K J Pl S 8) := by
  refine FG.of (k := 7) T.d_answer_weigh sc_answer_weigh (fun vs H Q E h => by obtain ⟨_, _, _, _, _, rfl, _⟩ := h; rfl) fun f cdv A outer s H vs Q E hr h => ?_
  obtain ⟨L, st, nb, c, hn, rfl, hS, hW, hN, hl100, k⟩ := h
  cases c <;> first | cases hn | skip
  rename_i p u
  have hN : SqL K H nb [.int p, .int u] := hN
  refine ⟨_, (pss_cons (ps_if (pt_not (pt_truth (pe_fg (ok_all T) (hr.mono (by decide)) (pa_cons (pe_slice sl_list (pv 1) (po_some pe_int) po_none) (pa_cons (pe_tup (pa_cons (pe_gt T.g_WEIGHTS) pa_nil)) pa_nil))) (fun _ => rfl))) (pss_one (ps_ret (pe_lst (pa_cons (pe_g T.g_NOT_IN_RANGE) pa_nil)))) pss_nil)
      (pss_cons (ps_set (i := 2) sc_answer_weigh.nd rfl (Or.inl rfl) (pe_mx (pv 0) (ok_find T) (hr.mono (by decide)) (pa_cons (pe_ix ix_list (pv 1) pe_int (fun _ _ => rfl)) pa_nil)))
      (pss_cons (ps_if (pt_cmp (pc_isN (pv 2))) (pss_one (ps_ret (pe_lst (pa_cons (pe_g T.g_NOT_THERE) pa_nil)))) pss_nil)
      (pss_cons (ps_fld (pv 2) (pe_ix ix_list (pv 1) pe_int (fun _ _ => rfl)) rfl)
      (pss_one (ps_ret (pe_lst (pa_cons pe_int pa_nil)))))))), ?_⟩
  refine ⟨_, rfl, 1, rfl, nb, _, rfl, hN, fun n1 hn1 => ?_⟩
  have e1 : cutV [.int p, .int u] (some 1) none = [.int u] := rfl
  rw [e1]
  have sa : Same H (upd H n1 (.lst [.int u])) := Same.new hn1
  refine fun a1 q1 => ⟨by show 1 ≤ sizeLine; decide, fun t ht => ?_⟩
  have s0 : Same _ (upd (upd H n1 (.lst [.int u])) t (.tup [.ref a1])) := Same.new ht
  refine ⟨n1, t, [u], [a1], [(1, 100)], rfl, s0.seq (SqL.of upd_same), .inr (SqT.of upd_same), .cons (q1 _) .nil, fun H1 s1 => ⟨_, tru_b _, ite2 (fun hc => ?_) fun hc => ?_⟩⟩
  · have hc' := all1.mp hc
    exact ⟨by show 1 ≤ sizeLine; decide, fun l hl => stays hS k [-1] (if_pos hc') ((sa.trans s0).trans s1) hl⟩
  · have hc' : ¬ Vbwsak.from_ u 1 100 = false := fun z => hc (all1.mpr z)
    have c1 := from_t hc'
    have s01 := (sa.trans s0).trans s1
    have S1 := hS.same s01
    have f1 : H1 L.p = some _ := S1.ses
    have e0 : Vbwsak.step st (.weigh p u) = (match Vbwsak.findPlayer st p with
      | none => Vbwsak.no st 2
      | some x => Vbwsak.yes (Vbwsak.setPlayer st { x with weight := u.toNat }) []) := if_neg hc'
    refine ⟨_, rfl, L.p, L.dx, _, rfl, f1, rfl, _, rfl, nb, _, _, _, rfl, rfl, s01.seq hN, atI_nat (j := 0) rfl, L, st, p, rfl, S1, fun H2 s2 hnone => ?_, fun H2 i x a s2 hx ha he hf => ?_⟩
    · have e : Vbwsak.step st (.weigh p u) = (st, [-2]) := by
        rw [e0]
        unfold Vbwsak.findPlayer
        rw [find_none hnone]
        rfl
      exact ⟨_, rfl, _, rfl, iteT ⟨by show 1 ≤ sizeLine; decide, fun l hl => stays hS k [-2] e (s01.trans s2) hl⟩⟩
    · have s02 := s01.trans s2
      have S2 := hS.same s02
      have e2 : Vbwsak.findPlayer st p = some x := (find_some hx he hf).1
      rw [e2] at e0
      obtain ⟨jl, q, hj, hq, ⟨dp, hP⟩, cs, hcs, hJ⟩ := S2.ps.of_as ha
      have eq : q = x := Option.some.inj (hq.symm.trans hx)
      subst eq
      have e : Vbwsak.step st (.weigh p u) = ({ st with players := st.players.set i { q with weight := u.toNat } }, [0]) := by
        rw [e0]
        exact congrArg (fun l => (({ st with players := l } : Vbwsak.State), [(0 : Int)])) (set_by_num (p' := { q with weight := u.toNat }) hW.pw hx rfl)
      refine ⟨_, rfl, _, rfl, iteF ?_⟩
      refine ⟨_, rfl, nb, _, _, _, rfl, rfl, s02.seq hN, atI_nat (j := 1) rfl, _, rfl, a, Pl, dp, _, rfl, hP, T.cP, T.P1, few rfl, ?_⟩
      generalize hH3g : upd H2 a (.ins Pl dp (putF "weight" (.int u) (pf q.num q.weight jl q.saved q.served))) = H3
      have hH3 : upd H2 a (.ins Pl dp (pf q.num ((u.toNat : Nat) : Int) jl q.saved q.served)) = H3 := by
        rw [Int.toNat_of_nonneg (by omega)]
        exact hH3g
      have naj : jl ≠ a := Ne.symm (ne_il hP hcs)
      have S3 := S2.set (q' := { q with weight := u.toNat }) (H' := H3) ha hj hx ⟨⟨dp, by rw [← hH3]; exact upd_same⟩, cs, by rw [← hH3, upd_ne naj]; exact hcs, hJ.mono fun y o hm eo => by
        obtain ⟨j2, dy, ey⟩ := hJ.get hm
        rw [← hH3, upd_ne (ne_len ey hP (by show (4 : Nat) ≠ 5; decide))]
        exact eo⟩ (by rw [← hH3]; exact Kp.upd (by simp))
      exact ⟨by show 1 ≤ sizeLine; decide, fun l hl => turns k [0] e rfl S3 (Ch.of ((Kp.of s02).trans (by rw [← hH3]; exact Kp.upd (fp_as ha)))) hl⟩
theorem ok_a9 (T : Txt K mg J Pl S) : FG P w K mg base 8 "answer_draw" (spAns K J Pl S 9) := by
  refine FG.of (k := 7) T.d_answer_draw sc_answer_draw (fun vs H Q E h => by obtain ⟨_, _, _, _, _, rfl, _⟩ := h; rfl) fun f cdv A outer s H vs Q E hr h => ?_
  obtain ⟨L, st, nb, c, hn, rfl, hS, hW, hN, hl100, k⟩ := h
  cases c <;> first | cases hn | skip
  rename_i ti th co sd
  have hN : SqL K H nb [.int ti, .int th, .int co, .int sd] := hN
  refine ⟨_, (pss_cons (ps_if (pt_not (pt_truth (pe_fg (ok_all T) (hr.mono (by decide)) (pa_cons (pv 1) (pa_cons (pe_tup (pa_cons (pe_gt T.g_TICKS) (pa_cons (pe_gt T.g_THINGS) (pa_cons (pe_gt T.g_COUNTS) (pa_cons (pe_gt T.g_SIDES) pa_nil))))) pa_nil))) (fun _ => rfl))) (pss_one (ps_ret (pe_lst (pa_cons (pe_g T.g_NOT_IN_RANGE) pa_nil)))) pss_nil)
      (pss_one (ps_ret (pe_lst (pa_cons pe_int (pa_cons (pe_fg (ok_draw T) (hr.mono (by decide)) (pa_cons (pe_fld (pv 0) rfl) (pa_cons (pe_ix ix_list (pv 1) pe_int (fun _ _ => rfl)) (pa_cons (pe_ix ix_list (pv 1) pe_int (fun _ _ => rfl)) (pa_cons (pe_ix ix_list (pv 1) pe_int (fun _ _ => rfl)) (pa_cons (pe_ix ix_list (pv 1) pe_int (fun _ _ => rfl)) pa_nil)))))) pa_nil)))))), ?_⟩
  refine ⟨_, rfl, fun a1 q1 a2 q2 a3 q3 a4 q4 => ⟨by show 4 ≤ sizeLine; decide, fun t ht => ?_⟩⟩
  have s0 : Same H (upd H t (.tup [.ref a1, .ref a2, .ref a3, .ref a4])) := Same.new ht
  refine ⟨nb, t, [ti, th, co, sd], [a1, a2, a3, a4], [(0, 1000000000), (0, 1000000), (0, 1000000), (1, 1000000000)], rfl, s0.seq hN, .inr (SqT.of upd_same), .cons (q1 _) (.cons (q2 _) (.cons (q3 _) (.cons (q4 _) .nil))), fun H1 s1 => ⟨_, tru_b _, ite2 (fun hc => ?_) fun hc => ?_⟩⟩
  · have hc' := all4.mp hc
    exact ⟨by show 1 ≤ sizeLine; decide, fun l hl => stays hS k [-1] (if_pos hc') (s0.trans s1) hl⟩
  · have hc' : ¬ (Vbwsak.from_ ti 0 1000000000 = false ∨ Vbwsak.from_ th 0 1000000 = false ∨ Vbwsak.from_ co 0 1000000 = false ∨ Vbwsak.from_ sd 1 1000000000 = false) := fun z => hc (all4.mpr z)
    have c1 := from_t fun z => hc' (.inl z)
    have c2 := from_t fun z => hc' (.inr (.inl z))
    have c3 := from_t fun z => hc' (.inr (.inr (.inl z)))
    have c4 := from_t fun z => hc' (.inr (.inr (.inr z)))
    have s01 := s0.trans s1
    have S1 := hS.same s01
    have f1 : H1 L.p = some _ := S1.ses
    have hN1 := s01.seq hN
    refine ⟨_, rfl, L.p, S, L.dx, _, _, rfl, f1, T.cS, T.S0, rfl, _, rfl, nb, _, _, _, rfl, rfl, hN1, atI_nat (j := 0) rfl, _, rfl, nb, _, _, _, rfl, rfl, hN1, atI_nat (j := 1) rfl, _, rfl, nb, _, _, _, rfl, rfl, hN1, atI_nat (j := 2) rfl, _, rfl, nb, _, _, _, rfl, rfl, hN1, atI_nat (j := 3) rfl, st.seed, ti.toNat, th.toNat, co.toNat, sd.toNat, ?_, by omega, fun H2 s2 => ⟨by show 2 ≤ sizeLine; decide, fun l hl => ?_⟩⟩
    · rw [Int.toNat_of_nonneg (by omega), Int.toNat_of_nonneg (by omega), Int.toNat_of_nonneg (by omega), Int.toNat_of_nonneg (by omega)]
    · exact stays hS k [0, (Vbwsak.draw st.seed ti.toNat th.toNat co.toNat sd.toNat : Int)] (if_neg hc') (s01.trans s2) hl
theorem ok_a10 (T : Txt K mg J Pl S) : FG P w K mg base 8 "answer_raw" (spAns K J Pl S 10) := by
  refine FG.of (k := 7) T.d_answer_raw sc_answer_raw (fun vs H Q E h => by obtain ⟨_, _, _, _, _, rfl, _⟩ := h; rfl) fun f cdv A outer s H vs Q E hr h => ?_
  obtain ⟨L, st, nb, c, hn, rfl, hS, hW, hN, hl100, k⟩ := h
  cases c <;> first | cases hn | skip
  rename_i ti th co
  have hN : SqL K H nb [.int ti, .int th, .int co] := hN
  refine ⟨_, (pss_cons (ps_if (pt_not (pt_truth (pe_fg (ok_all T) (hr.mono (by decide)) (pa_cons (pv 1) (pa_cons (pe_tup (pa_cons (pe_gt T.g_TICKS) (pa_cons (pe_gt T.g_THINGS) (pa_cons (pe_gt T.g_COUNTS) pa_nil)))) pa_nil))) (fun _ => rfl))) (pss_one (ps_ret (pe_lst (pa_cons (pe_g T.g_NOT_IN_RANGE) pa_nil)))) pss_nil)
      (pss_cons (ps_set (i := 2) sc_answer_raw.nd rfl (Or.inl rfl) (pe_fg (ok_raw_number T) (hr.mono (by decide)) (pa_cons (pe_fld (pv 0) rfl) (pa_cons (pe_ix ix_list (pv 1) pe_int (fun _ _ => rfl)) (pa_cons (pe_ix ix_list (pv 1) pe_int (fun _ _ => rfl)) (pa_cons (pe_ix ix_list (pv 1) pe_int (fun _ _ => rfl)) (pa_cons pe_int pa_nil)))))))
      (pss_one (ps_ret (pe_lst (pa_cons pe_int (pa_cons (pe_op op_fd (pv 2) (pe_g T.g_HALF_WORD)) (pa_cons (pe_op op_mod (pv 2) (pe_g T.g_HALF_WORD)) pa_nil)))))))), ?_⟩
  refine ⟨_, rfl, fun a1 q1 a2 q2 a3 q3 => ⟨by show 3 ≤ sizeLine; decide, fun t ht => ?_⟩⟩
  have s0 : Same H (upd H t (.tup [.ref a1, .ref a2, .ref a3])) := Same.new ht
  refine ⟨nb, t, [ti, th, co], [a1, a2, a3], [(0, 1000000000), (0, 1000000), (0, 1000000)], rfl, s0.seq hN, .inr (SqT.of upd_same), .cons (q1 _) (.cons (q2 _) (.cons (q3 _) .nil)), fun H1 s1 => ⟨_, tru_b _, ite2 (fun hc => ?_) fun hc => ?_⟩⟩
  · have hc' := all3.mp hc
    exact ⟨by show 1 ≤ sizeLine; decide, fun l hl => stays hS k [-1] (if_pos hc') (s0.trans s1) hl⟩
  · have hc' : ¬ (Vbwsak.from_ ti 0 1000000000 = false ∨ Vbwsak.from_ th 0 1000000 = false ∨ Vbwsak.from_ co 0 1000000 = false) := fun z => hc (all3.mpr z)
    have c1 := from_t fun z => hc' (.inl z)
    have c2 := from_t fun z => hc' (.inr (.inl z))
    have c3 := from_t fun z => hc' (.inr (.inr z))
    have s01 := s0.trans s1
    have S1 := hS.same s01
    have f1 : H1 L.p = some _ := S1.ses
    have hN1 := s01.seq hN
    have e : Vbwsak.step st (.raw ti th co) = (st, 0 :: [((Vbwsak.raw st.seed ti.toNat th.toNat co.toNat 0 / 4294967296 : Nat) : Int), ((Vbwsak.raw st.seed ti.toNat th.toNat co.toNat 0 % 4294967296 : Nat) : Int)]) := if_neg hc'
    refine ⟨_, rfl, L.p, S, L.dx, _, _, rfl, f1, T.cS, T.S0, rfl, _, rfl, nb, _, _, _, rfl, rfl, hN1, atI_nat (j := 0) rfl, _, rfl, nb, _, _, _, rfl, rfl, hN1, atI_nat (j := 1) rfl, _, rfl, nb, _, _, _, rfl, rfl, hN1, atI_nat (j := 2) rfl, st.seed, ti.toNat, th.toNat, co.toNat, 0, ?_, fun H2 s2 => ?_⟩
    · rw [Int.toNat_of_nonneg (by omega), Int.toNat_of_nonneg (by omega), Int.toNat_of_nonneg (by omega)]
      rfl
    · generalize Vbwsak.raw st.seed ti.toNat th.toNat co.toNat 0 = r at e
      refine ⟨_, rfl, _, _, rfl, rfl, ⟨by decide, by decide⟩, _, rfl, _, _, rfl, rfl, (by decide : (0 : Int) < _), by show 3 ≤ sizeLine; decide, fun l hl => ?_⟩
      exact stays hS k [0, ((r / 4294967296 : Nat) : Int), ((r % 4294967296 : Nat) : Int)] e (s01.trans s2) hl
theorem ok_a11 (T : Txt K mg J Pl S) : FG P w K mg base 8 "answer_shuffle" (spAns K J Pl S 11) := by
  refine FG.of (k := 7) T.d_answer_shuffle sc_answer_shuffle (fun vs H Q E h => by obtain ⟨_, _, _, _, _, rfl, _⟩ := h; rfl) fun f cdv A outer s H vs Q E hr h => ?_
  obtain ⟨L, st, nb, c, hn, rfl, hS, hW, hN, hl100, k⟩ := h
  cases c <;> first | cases hn | skip
  rename_i ti th n
  have hN : SqL K H nb [.int ti, .int th, .int n] := hN
  refine ⟨_, (pss_cons (ps_if (pt_not (pt_truth (pe_fg (ok_all T) (hr.mono (by decide)) (pa_cons (pv 1) (pa_cons (pe_tup (pa_cons (pe_gt T.g_TICKS) (pa_cons (pe_gt T.g_THINGS) (pa_cons (pe_gt T.g_SHUFFLED) pa_nil)))) pa_nil))) (fun _ => rfl))) (pss_one (ps_ret (pe_lst (pa_cons (pe_g T.g_NOT_IN_RANGE) pa_nil)))) pss_nil)
      (pss_one (ps_ret (pe_op op_cat (pe_lst (pa_cons pe_int pa_nil)) (pe_fg (ok_shuffled T) (hr.mono (by decide)) (pa_cons (pe_fld (pv 0) rfl) (pa_cons (pe_ix ix_list (pv 1) pe_int (fun _ _ => rfl)) (pa_cons (pe_ix ix_list (pv 1) pe_int (fun _ _ => rfl)) (pa_cons (pe_ix ix_list (pv 1) pe_int (fun _ _ => rfl)) pa_nil))))))))), ?_⟩
  refine ⟨_, rfl, fun a1 q1 a2 q2 a3 q3 => ⟨by show 3 ≤ sizeLine; decide, fun t ht => ?_⟩⟩
  have s0 : Same H (upd H t (.tup [.ref a1, .ref a2, .ref a3])) := Same.new ht
  refine ⟨nb, t, [ti, th, n], [a1, a2, a3], [(0, 1000000000), (0, 1000000), (0, 64)], rfl, s0.seq hN, .inr (SqT.of upd_same), .cons (q1 _) (.cons (q2 _) (.cons (q3 _) .nil)), fun H1 s1 => ⟨_, tru_b _, ite2 (fun hc => ?_) fun hc => ?_⟩⟩
  · have hc' := all3.mp hc
    exact ⟨by show 1 ≤ sizeLine; decide, fun l hl => stays hS k [-1] (if_pos hc') (s0.trans s1) hl⟩
  · have hc' : ¬ (Vbwsak.from_ ti 0 1000000000 = false ∨ Vbwsak.from_ th 0 1000000 = false ∨ Vbwsak.from_ n 0 64 = false) := fun z => hc (all3.mpr z)
    have c1 := from_t fun z => hc' (.inl z)
    have c2 := from_t fun z => hc' (.inr (.inl z))
    have c3 := from_t fun z => hc' (.inr (.inr z))
    have s01 := s0.trans s1
    have e : Vbwsak.step st (.shuffle ti th n) = (st, 0 :: (Vbwsak.shuffled st.seed ti.toNat th.toNat n.toNat).map fun (i : Nat) => (i : Int)) := if_neg hc'
    refine ⟨by show 1 ≤ sizeLine; decide, fun l1 hl1 => ?_⟩
    have sl : Same H1 (upd H1 l1 (.lst [.int 0])) := Same.new hl1
    have s02 := s01.trans sl
    have S2 := hS.same s02
    have f2 : upd H1 l1 (.lst [.int 0]) L.p = some _ := S2.ses
    have hN2 := s02.seq hN
    refine ⟨_, rfl, L.p, S, L.dx, _, _, rfl, f2, T.cS, T.S0, rfl, _, rfl, nb, _, _, _, rfl, rfl, hN2, atI_nat (j := 0) rfl, _, rfl, nb, _, _, _, rfl, rfl, hN2, atI_nat (j := 1) rfl, _, rfl, nb, _, _, _, rfl, rfl, hN2, atI_nat (j := 2) rfl, st.seed, ti.toNat, th.toNat, n.toNat, ?_, by omega, fun H3 l3 s3 _ e3 => ?_⟩
    · rw [Int.toNat_of_nonneg (by omega), Int.toNat_of_nonneg (by omega), Int.toNat_of_nonneg (by omega)]
    · refine ⟨l1, l3, _, _, rfl, rfl, s3 _ _ upd_same, e3, ?_, fun l hl => ?_⟩
      · have hz : ∀ (m : Nat) (r : List Nat), (Vbwsak.shuffleFrom st.seed ti.toNat th.toNat m r).length = r.length := fun m => by
          induction m with
          | zero => intro r; rfl
          | succ m ih =>
            intro r
            rw [Vbwsak.shuffleFrom.eq_2]
            split
            · rfl
            · rw [ih]
              unfold Vbwsak.exchanged
              rw [List.length_set, List.length_set]
        unfold intsOf Vbwsak.shuffled
        rw [List.length_map, hz, List.length_range, sizeLine_eq]
        show 1 + _ ≤ _
        omega
      · have q := stays hS k _ e (s02.trans s3) hl
        rw [ints_map]
        exact q
theorem ok_a13 (T : Txt K mg J Pl S) : FG P w K mg base 8 "answer_bound" (spAns K J Pl S 13) := by
  refine FG.of (k := 7) T.d_answer_bound sc_answer_bound (fun vs H Q E h => by obtain ⟨_, _, _, _, _, rfl, _⟩ := h; rfl) fun f cdv A outer s H vs Q E hr h => ?_
  obtain ⟨L, st, nb, c, hn, rfl, hS, hW, hN, hl100, k⟩ := h
  cases c <;> first | cases hn | skip
  rename_i p
  have hN : SqL K H nb [.int p] := hN
  have f0 : H L.p = some _ := hS.ses
  refine ⟨_, (pss_cons (ps_set (i := 2) sc_answer_bound.nd rfl (Or.inl rfl) (pe_mx (pv 0) (ok_find T) (hr.mono (by decide)) (pa_cons (pe_ix ix_list (pv 1) pe_int (fun _ _ => rfl)) pa_nil)))
      (pss_cons (ps_if (pt_cmp (pc_isN (pv 2))) (pss_one (ps_ret (pe_lst (pa_cons (pe_g T.g_NOT_THERE) pa_nil)))) pss_nil)
      (pss_cons (ps_if (pt_not (pt_truth (pe_fld (pv 2) rfl) (fun _ => rfl))) (pss_one (ps_ret (pe_lst (pa_cons (pe_g T.g_NOTHING) pa_nil)))) pss_nil)
      (pss_one (ps_ret (pe_lst (pa_cons pe_int (pa_cons (pe_mx (pv 0) (ok_bound T) (hr.mono (by decide)) (pa_cons (pv 2) pa_nil)) pa_nil)))))))), ?_⟩
  refine ⟨_, rfl, L.p, L.dx, _, rfl, f0, rfl, _, rfl, nb, _, _, _, rfl, rfl, hN, atI_nat (j := 0) rfl, L, st, p, rfl, hS, fun H1 s1 hnone => ?_, fun H1 i x a s1 hx ha he hf => ?_⟩
  · have e : Vbwsak.step st (.bound p) = (st, [-2]) := by
      show (match Vbwsak.findPlayer st p with | none => _ | some x => _) = _
      unfold Vbwsak.findPlayer
      rw [find_none hnone]
      rfl
    exact ⟨_, rfl, _, rfl, iteT ⟨by show 1 ≤ sizeLine; decide, fun l hl => stays hS k [-2] e s1 hl⟩⟩
  · have e0 : Vbwsak.step st (.bound p) = if x.jobs.isEmpty = true then Vbwsak.no st 4 else Vbwsak.yes st [(Vbwsak.boundOf st x : Int)] := by
      show (match Vbwsak.findPlayer st p with | none => _ | some x => _) = _
      unfold Vbwsak.findPlayer
      rw [(find_some hx he hf).1]
    have S1 := hS.same s1
    have f1 : H1 L.p = some _ := S1.ses
    obtain ⟨jl, q, hj, hq, ⟨dp, hP⟩, cs, hcs, hJ⟩ := S1.ps.of_as ha
    have eq : q = x := Option.some.inj (hq.symm.trans hx)
    subst eq
    refine ⟨_, rfl, _, rfl, iteF ?_⟩
    refine ⟨_, rfl, a, Pl, dp, _, _, rfl, hP, T.cP, T.P2, rfl, _, tru_l (SqL.of hcs), ?_⟩
    cases hjobs : q.jobs with
    | nil =>
      have hcs0 : cs = [] := List.eq_nil_of_length_eq_zero (by rw [hJ.len, hjobs]; rfl)
      subst hcs0
      have e : Vbwsak.step st (.bound p) = (st, [-4]) := e0.trans (if_pos (by rw [hjobs]; rfl))
      exact iteT ⟨by show 1 ≤ sizeLine; decide, fun l hl => stays hS k [-4] e s1 hl⟩
    | cons j r =>
      obtain ⟨c, cr, hcc⟩ : ∃ c cr, cs = c :: cr := by
        cases cs with
        | nil => have := hJ.len; rw [hjobs] at this; cases this
        | cons c cr => exact ⟨c, cr, rfl⟩
      subst hcc
      have e : Vbwsak.step st (.bound p) = (st, [0, (Vbwsak.boundOf st q : Int)]) := e0.trans (if_neg (by rw [hjobs]; exact Bool.false_ne_true))
      refine iteF ⟨_, rfl, L.p, L.dx, _, rfl, f1, rfl, _, rfl, L, st, i, a, q, rfl, S1, hW, ha, hx, by rw [hjobs]; exact List.cons_ne_nil _ _, fun H2 s2 => ⟨by show 2 ≤ sizeLine; decide, fun l hl => ?_⟩⟩
      exact stays hS k [0, (Vbwsak.boundOf st q : Int)] e (s1.trans s2) hl
theorem ok_a14 (T : Txt K mg J Pl S) : FG P w K mg base 8 "answer_try" (spAns K J Pl S 14) := by
  refine FG.of (k := 7) T.d_answer_try sc_answer_try (fun vs H Q E h => by obtain ⟨_, _, _, _, _, rfl, _⟩ := h; rfl) fun f cdv A outer s H vs Q E hr h => ?_
  obtain ⟨L, st, nb, c, hn, rfl, hS, hW, hN, hl100, k⟩ := h
  cases c <;> first | cases hn | skip
  rename_i n
  have hN : SqL K H nb [.int n] := hN
  refine ⟨_, (pss_cons (ps_if (pt_not (pt_truth (pe_fg (ok_all T) (hr.mono (by decide)) (pa_cons (pv 1) (pa_cons (pe_tup (pa_cons (pe_gt T.g_TICKS_AT_ONCE) pa_nil)) pa_nil))) (fun _ => rfl))) (pss_one (ps_ret (pe_lst (pa_cons (pe_g T.g_NOT_IN_RANGE) pa_nil)))) pss_nil)
      (pss_one (ps_ret (pe_op op_cat (pe_lst (pa_cons pe_int pa_nil)) (pe_mx (pe_mx0 (pv 0) (ok_scopy T) (hr.mono (by decide))) (ok_ticks T) (hr.mono (by decide)) (pa_cons (pe_ix ix_list (pv 1) pe_int (fun _ _ => rfl)) pa_nil)))))), ?_⟩
  refine ⟨_, rfl, fun a1 q1 => ⟨by show 1 ≤ sizeLine; decide, fun t ht => ?_⟩⟩
  have s0 : Same H (upd H t (.tup [.ref a1])) := Same.new ht
  refine ⟨nb, t, [n], [a1], [(1, 20)], rfl, s0.seq hN, .inr (SqT.of upd_same), .cons (q1 _) .nil, fun H1 s1 => ⟨_, tru_b _, ite2 (fun hc => ?_) fun hc => ?_⟩⟩
  · have hc' := all1.mp hc
    exact ⟨by show 1 ≤ sizeLine; decide, fun l hl => stays hS k [-1] (if_pos hc') (s0.trans s1) hl⟩
  · have hc' : ¬ Vbwsak.from_ n 1 20 = false := fun z => hc (all1.mpr z)
    have c1 := from_t hc'
    have s01 := s0.trans s1
    have e : Vbwsak.step st (.try_ n) = (st, 0 :: Vbwsak.doneRow (Vbwsak.tickedBy n.toNat st).2) := if_neg hc'
    refine ⟨by show 1 ≤ sizeLine; decide, fun l1 hl1 => ?_⟩
    have sl : Same H1 (upd H1 l1 (.lst [.int 0])) := Same.new hl1
    have s02 := s01.trans sl
    have S2 := hS.same s02
    have f2 : upd H1 l1 (.lst [.int 0]) L.p = some _ := S2.ses
    refine ⟨_, rfl, L.p, L.dx, _, rfl, f2, rfl, L, st, rfl, S2, hW.n8, fun H3 L3 s3 S3 fr3 => ?_⟩
    have f3 : H3 L3.p = some _ := S3.ses
    have hnn : ((n.toNat : Nat) : Int) = n := Int.toNat_of_nonneg (by omega)
    refine ⟨L3.p, L3.dx, _, rfl, f3, rfl, _, rfl, nb, _, _, _, rfl, rfl, (s02.trans s3).seq hN, atI_nat (j := 0) rfl, L3, st, n.toNat, by rw [hnn], by omega, S3, hW, fun H4 r4 S4 e4 k4 => ?_⟩
    have s4 : Same (upd H1 l1 (.lst [.int 0])) H4 := fun b o eb => k4 b o (s3 _ _ eb) fun z => by
      have := fr3 b z
      rw [eb] at this
      cases this
    refine ⟨l1, r4, _, _, rfl, rfl, s4 _ _ upd_same, e4, ?_, fun l hl => ?_⟩
    · have := (WF.tickedBy n.toNat hW).2.1
      have := hW.j64
      rw [rowVals_len, sizeLine_eq]
      show 1 + _ ≤ _
      omega
    · exact stays hS k _ e (s02.trans s4) hl
theorem ok_a15 (T : Txt K mg J Pl S) : FG P w K mg base 8 "answer_state" (spAns K J Pl S 15) := by
  refine FG.of (k := 7) T.d_answer_state sc_answer_state (fun vs H Q E h => by obtain ⟨_, _, _, _, _, rfl, _⟩ := h; rfl) fun f cdv A outer s H vs Q E hr h => ?_
  obtain ⟨L, st, nb, c, hn, rfl, hS, hW, hN, hl100, k⟩ := h
  cases c <;> first | cases hn | skip
  have f0 : H L.p = some (.ins S L.dx (sf st.seed st.budget st.quantum L.pl st.tick st.next st.at_ st.begun st.spent)) := hS.ses
  refine ⟨_, (pss_cons (ps_set (i := 2) sc_answer_state.nd rfl (Or.inl rfl) (pe_ifExp (pt_truth (pe_fld (pv 0) rfl) (fun _ => rfl)) pe_int pe_int))
      (pss_cons (ps_set (i := 3) sc_answer_state.nd rfl (Or.inl rfl) (pe_lst (pa_cons pe_int (pa_cons (pe_fld (pv 0) rfl) (pa_cons (pe_fld (pv 0) rfl) (pa_cons (pe_fld (pv 0) rfl) (pa_cons (pe_callB call_len_seq rfl T.b_len PySem.boot_len (pa_cons (pe_fld (pv 0) rfl) pa_nil)) pa_nil)))))))
      (pss_one (ps_ret (pe_op op_cat (pv 3) (pe_lst (pa_cons (pe_fld (pv 0) rfl) (pa_cons (pv 2) (pa_cons (pe_fld (pv 0) rfl) (pa_cons (pe_fld (pv 0) rfl) pa_nil)))))))))), ?_⟩
  have rest : ∀ (b : Int), (b = if st.begun = true then 1 else 0) → tSeq (tAsg (tLst (tCons (tC (.int 0)) (tCons (tFld K (tVar 0) "tick") (tCons (tFld K (tVar 0) "budget") (tCons (tFld K (tVar 0) "quantum") (tCons (tCB (fun xs H Q => ∃ p ys, xs = [.ref p] ∧ (SqL K H p ys ∨ SqT K H p ys) ∧ Q (.int ys.length) H) (tCons (tFld K (tVar 0) "players") tNil)) tNil)))))) (gName 3))
      (tRet (tOp rCat (tVar 3) (tLst (tCons (tFld K (tVar 0) "turn") (tCons (tVar 2) (tCons (tFld K (tVar 0) "spent") (tCons (tFld K (tVar 0) "next_job") tNil))))))) { nx := fun _ H' => Q .non H', rt := Q } [some (.ref L.p), some (.ref nb), some (.int b), none] H := fun b hb => by
    refine ⟨_, rfl, L.p, S, L.dx, _, _, rfl, f0, T.cS, T.S4, rfl, _, rfl, L.p, S, L.dx, _, _, rfl, f0, T.cS, T.S1, rfl, _, rfl, L.p, S, L.dx, _, _, rfl, f0, T.cS, T.S2, rfl, _, rfl, L.p, S, L.dx, _, _, rfl, f0, T.cS, T.S3, rfl, L.pl, _, rfl, .inl (SqL.of hS.ps.lst), by show 5 ≤ sizeLine; decide, fun l1 hl1 => ?_⟩
    rw [List.length_map, hS.ps.la]
    have s1 : Same H (upd H l1 (.lst [.int 0, .int st.tick, .int st.budget, .int st.quantum, .int st.players.length])) := Same.new hl1
    have f1 := s1 _ _ f0
    refine ⟨_, rfl, _, rfl, L.p, S, L.dx, _, _, rfl, f1, T.cS, T.S6, rfl, _, rfl, _, rfl, L.p, S, L.dx, _, _, rfl, f1, T.cS, T.S8, rfl, _, rfl, L.p, S, L.dx, _, _, rfl, f1, T.cS, T.S5, rfl, by show 4 ≤ sizeLine; decide, fun l2 hl2 => ?_⟩
    refine ⟨l1, l2, _, _, rfl, rfl, Same.new hl2 _ _ upd_same, upd_same, by show 5 + 4 ≤ sizeLine; decide, fun l hl => ?_⟩
    subst hb
    exact stays hS k [0, (st.tick : Int), (st.budget : Int), (st.quantum : Int), (st.players.length : Int), (st.at_ : Int), if st.begun = true then 1 else 0, (st.spent : Int), (st.next : Int)] rfl (s1.trans (Same.new hl2)) hl
  refine ⟨_, rfl, L.p, S, L.dx, _, _, rfl, f0, T.cS, T.S7, rfl, _, tru_b _, ite2 (fun hb => ?_) fun hb => ?_⟩
  · exact rest 1 (by rw [if_pos hb])
  · exact rest 0 (by rw [if_neg hb])
end
end TS
end
section
set_option Elab.async false
set_option linter.all false
set_option maxRecDepth 100000
set_option maxHeartbeats 2000000
/-! ### pick -/
namespace TS
open PySem PySem.Spec PyProof.Rows L2 TR
theorem cut_from {xs : List V} {k : Nat} (h : k ≤ xs.length) : cutV xs (some (k : Int)) none = xs.drop k := by
  unfold cutV
  rw [HT.sIx_nat, HT.sIx_none, Nat.min_eq_left h]
  exact List.take_of_length_le (by rw [List.length_drop]; exact Nat.le_refl _)
theorem cut_to {xs : List V} {k : Nat} (h : k ≤ xs.length) : cutV xs none (some (k : Int)) = xs.take k := by
  unfold cutV
  rw [HT.sIx_nat, HT.sIx_none, Nat.min_eq_left h, Nat.sub_zero]
  rfl
theorem rep_at {α : Type} {n i : Nat} {x y : α} (h : (List.replicate n x)[i]? = some y) : y = x := by
  rw [List.getElem?_replicate] at h
  split at h
  · exact (Option.some.inj h).symm
  · cases h
theorem Rg.rep {K : PySem.W.Frag} {H : Hp} {t : Addr} {r : Int × Int} (h : SqT K H t [.int r.1, .int r.2]) : ∀ n, Rg K H (List.replicate n t) (List.replicate n r)
  | 0 => .nil
  | n + 1 => .cons h (Rg.rep h n)
theorem allIn_rep (lo hi : Int) : ∀ (ws : List Int), allIn ws (List.replicate ws.length (lo, hi)) = ws.all fun w => Vbwsak.from_ w lo hi
  | [] => rfl
  | w :: ws => by
    have ih := allIn_rep lo hi ws
    unfold allIn at ih ⊢
    rw [List.length_cons, List.replicate_succ, List.zip_cons_cons, List.all_cons, List.all_cons, ih]
theorem nats_of : ∀ {ws : List Int}, (∀ w ∈ ws, 0 ≤ w) → ws = (ws.map Int.toNat).map fun (n : Nat) => (n : Int)
  | [], _ => rfl
  | x :: ws, h => by
    have ih := nats_of (ws := ws) fun y hy => h y (List.mem_cons_of_mem _ hy)
    rw [List.map_cons, List.map_cons, ← ih, Int.toNat_of_nonneg (h x List.mem_cons_self)]
theorem sum_zero : ∀ {l : List Nat}, Vbwsak.sumOf l = 0 ↔ ∀ x ∈ l, x = 0
  | [] => ⟨fun _ x h => by simp at h, fun _ => rfl⟩
  | y :: l => by
    rw [sumOf_cons]
    constructor
    · intro h x hx
      rcases List.mem_cons.mp hx with rfl | hx
      · omega
      · exact (sum_zero (l := l)).mp (by omega) x hx
    · intro h
      have h1 := h y List.mem_cons_self
      have h2 := (sum_zero (l := l)).mpr fun x hx => h x (List.mem_cons_of_mem _ hx)
      omega
section
variable {P : Program} {w : World} {K : PySem.W.Frag} {mg : Str → Option Value} {base : Heap} {J Pl S : Addr}
theorem ok_a12 (T : Txt K mg J Pl S) : FG P w K mg base 8 "answer_pick" (spAns K J Pl S 12) := by
  refine FG.of (k := 7) T.d_answer_pick sc_answer_pick (fun vs H Q E h => by obtain ⟨_, _, _, _, _, rfl, _⟩ := h; rfl) fun f cdv A outer s H vs Q E hr h => ?_
  obtain ⟨L, st, nb, c, hn, rfl, hS, hW, hN, hl100, k⟩ := h
  cases c <;> first | cases hn | skip
  rename_i ti th ws
  have hN : SqL K H nb (.int ti :: .int th :: .int (ws.length : Int) :: ws.map V.int) := hN
  have hl : ws.length + 3 ≤ 100 := hl100
  refine ⟨_, (pss_cons (ps_set (i := 2) sc_answer_pick.nd rfl (Or.inl rfl) (pe_slice sl_list (pv 1) (po_some pe_int) po_none))
      (pss_cons (ps_if (pt_not (pt_truth (pe_fg (ok_all T) (hr.mono (by decide)) (pa_cons (pe_slice sl_list (pv 1) po_none (po_some pe_int)) (pa_cons (pe_tup (pa_cons (pe_gt T.g_TICKS) (pa_cons (pe_gt T.g_THINGS) (pa_cons (pe_gt T.g_ROW_LENGTHS) pa_nil)))) pa_nil))) (fun _ => rfl))) (pss_one (ps_ret (pe_lst (pa_cons (pe_g T.g_NOT_IN_RANGE) pa_nil)))) pss_nil)
      (pss_cons (ps_if (pt_not (pt_truth (pe_fg (ok_all T) (hr.mono (by decide)) (pa_cons (pv 2) (pa_cons (by
        exact pe_lc rfl sc_answer_pick.nd (pi_list (pv 2)) (own := [("weight", 3)]) (te := tGt K [.int 0, .int 1000000]) (blkOk_by (show blkC ["session", "numbers", "weights", "weight"] (defScope s_answer_pick) _ _ = true by decide +kernel)) (fun _ _ _ _ _ => (pg_name (i := 3) sc_answer_pick.nd rfl (Or.inl rfl))) (fun _ _ _ _ _ => pts_nil) (fun _ _ _ _ _ => by exact pe_gt T.g_ROW_WEIGHTS)) pa_nil))) (fun _ => rfl))) (pss_one (ps_ret (pe_lst (pa_cons (pe_g T.g_NOT_IN_RANGE) pa_nil)))) pss_nil)
      (pss_cons (ps_if (pt_cmpR op_eq (pe_callB (cr_sum rfl) rfl T.b_sum boot_sum (pa_cons (pv 2) pa_nil)) pe_int (nomark _)) (pss_one (ps_ret (pe_lst (pa_cons (pe_g T.g_NOTHING) pa_nil)))) pss_nil)
      (pss_one (ps_ret (pe_lst (pa_cons pe_int (pa_cons (pe_fg (ok_picked T) (hr.mono (by decide)) (pa_cons (pe_fld (pv 0) rfl) (pa_cons (pe_ix ix_list (pv 1) pe_int (fun _ _ => rfl)) (pa_cons (pe_ix ix_list (pv 1) pe_int (fun _ _ => rfl)) (pa_cons (pv 2) pa_nil))))) pa_nil))))))))), ?_⟩
  refine ⟨_, rfl, 3, rfl, nb, _, rfl, hN, fun wa hwa => ?_⟩
  have e1 : cutV (.int ti :: .int th :: .int (ws.length : Int) :: ws.map V.int) (some 3) none = ws.map V.int := cut_from (k := 3) (by show 3 ≤ _ + 3; omega)
  rw [e1]
  have sa : Same H (upd H wa (.lst (ws.map V.int))) := Same.new hwa
  refine ⟨_, rfl, 3, rfl, nb, _, rfl, sa.seq hN, fun n1 hn1 => ?_⟩
  have e2 : cutV (.int ti :: .int th :: .int (ws.length : Int) :: ws.map V.int) none (some 3) = [.int ti, .int th, .int (ws.length : Int)] := cut_to (k := 3) (by show 3 ≤ _ + 3; omega)
  rw [e2]
  have sb : Same _ (upd (upd H wa (.lst (ws.map V.int))) n1 (.lst [.int ti, .int th, .int (ws.length : Int)])) := Same.new hn1
  refine fun a1 q1 a2 q2 a3 q3 => ⟨by show 3 ≤ sizeLine; decide, fun t ht => ?_⟩
  have s0 : Same _ (upd (upd (upd H wa (.lst (ws.map V.int))) n1 (.lst [.int ti, .int th, .int (ws.length : Int)])) t (.tup [.ref a1, .ref a2, .ref a3])) := Same.new ht
  refine ⟨n1, t, [ti, th, (ws.length : Int)], [a1, a2, a3], [(0, 1000000000), (0, 1000000), (1, 32)], rfl, s0.seq (SqL.of upd_same), .inr (SqT.of upd_same), .cons (q1 _) (.cons (q2 _) (.cons (q3 _) .nil)), fun H1 s1 => ⟨_, tru_b _, ite2 (fun hc => ?_) fun hc => ?_⟩⟩
  · have hc1 := all3.mp hc
    have hc' : Vbwsak.from_ ti 0 Vbwsak.FARTICK = false ∨ Vbwsak.from_ th 0 1000000 = false ∨ ws.isEmpty = true ∨ 32 < ws.length ∨ (ws.all fun w => Vbwsak.from_ w 0 1000000) = false := by
      rcases hc1 with z | z | z
      · exact .inl z
      · exact .inr (.inl z)
      · have z' : ¬ ((1 : Int) ≤ (ws.length : Int) ∧ (ws.length : Int) ≤ 32) := of_decide_eq_false z
        by_cases h0 : ws.length = 0
        · exact .inr (.inr (.inl (by rw [List.eq_nil_of_length_eq_zero h0]; rfl)))
        · exact .inr (.inr (.inr (.inl (by omega))))
    exact ⟨by show 1 ≤ sizeLine; decide, fun l hl => stays hS k [-1] (if_pos hc') (((sa.trans sb).trans s0).trans s1) hl⟩
  · have hc' : ¬ (Vbwsak.from_ ti 0 1000000000 = false ∨ Vbwsak.from_ th 0 1000000 = false ∨ Vbwsak.from_ (ws.length : Int) 1 32 = false) := fun z => hc (all3.mpr z)
    have c1 := from_t fun z => hc' (.inl z)
    have c2 := from_t fun z => hc' (.inr (.inl z))
    have c3 := from_t fun z => hc' (.inr (.inr z))
    have s01 := ((sa.trans sb).trans s0).trans s1
    have w1 : SqL K H1 wa (ws.map V.int) := ((sb.trans s0).trans s1).seq (SqL.of upd_same)
    refine ⟨_, rfl, _, rfl, wa, rfl, ⟨_, w1⟩, fun D hD => ?_⟩
    obtain ⟨rwa, hrm, hrw⟩ := T.g_ROW_WEIGHTS
    refine lc_list (K := K) (a := wa) (xs := ws.map V.int) (fun i H' => Same H1 H' ∧ ∃ ts : List Addr, ts.length = i ∧ (∀ t ∈ ts, ∀ H, SqT K H t [.int 0, .int 1000000]) ∧ H' D = some (.lst (ts.map V.ref))) ⟨Same.new hD, [], rfl, by simp, upd_same⟩ (fun i H' _ p => p.1.seq w1) ?_ ?_
    · rintro i x H' hi ⟨sm, ts, hts, hta, hD'⟩
      refine ⟨rfl, fun a ha => ⟨_, hD', ?_, fun b o e => ?_, ts ++ [a], ?_, ?_, ?_⟩⟩
      · have := (List.getElem?_eq_some_iff.mp hi).1
        rw [List.length_map] at this
        rw [List.length_map, hts, sizeLine_eq]
        omega
      · rw [upd_ne (ne_of_none e hD)]
        exact sm _ _ e
      · rw [List.length_append, hts]
        rfl
      · intro t' ht'
        rcases List.mem_append.mp ht' with z | z
        · exact hta t' z
        · rw [List.mem_singleton.mp z]
          exact ha
      · rw [upd_same, List.map_append]
        rfl
    rintro H2 ⟨s2, ts, hts, hta, hD2⟩
    rw [List.length_map] at hts
    have s02 := s01.trans s2
    have w2 : SqL K H2 wa (ws.map V.int) := s2.seq w1
    have rg : ∀ (l : List Addr), (∀ t ∈ l, ∀ H, SqT K H t [.int 0, .int 1000000]) → Rg K H2 l (List.replicate l.length ((0 : Int), (1000000 : Int))) := fun l => by
      induction l with
      | nil => intro _; exact .nil
      | cons t' l ih =>
        intro hh
        exact .cons (hh t' List.mem_cons_self H2) (ih fun x hx => hh x (List.mem_cons_of_mem _ hx))
    refine ⟨wa, D, ws, ts, List.replicate ts.length ((0 : Int), (1000000 : Int)), rfl, w2, .inl (SqL.of hD2), rg ts hta, fun H3 s3 => ⟨_, tru_b _, ?_⟩⟩
    rw [hts, allIn_rep]
    have s03 := s02.trans s3
    have hemp : ¬ ws.isEmpty = true := fun z => by
      rw [List.isEmpty_iff.mp z] at c3
      exact absurd c3.1 (by decide)
    refine ite2 (fun hg => ?_) fun hg => ?_
    · have hg' : (ws.all fun w => Vbwsak.from_ w 0 1000000) = false := by
        cases z : (ws.all fun w => Vbwsak.from_ w 0 1000000) with
        | false => rfl
        | true => rw [z] at hg; cases hg
      exact ⟨by show 1 ≤ sizeLine; decide, fun l hl => stays hS k [-1] (if_pos (.inr (.inr (.inr (.inr hg'))))) s03 hl⟩
    · have hg' : ¬ (ws.all fun w => Vbwsak.from_ w 0 1000000) = false := fun z => hg (by rw [z]; rfl)
      have hgt : (ws.all fun w => Vbwsak.from_ w 0 1000000) = true := by
        cases z : (ws.all fun w => Vbwsak.from_ w 0 1000000) with
        | true => rfl
        | false => exact absurd z hg'
      have hall : ∀ w ∈ ws, 0 ≤ w := fun w hw => by
        have z := List.all_eq_true.mp hgt w hw
        exact (of_decide_eq_true z).1
      have hneg : ¬ (Vbwsak.from_ ti 0 Vbwsak.FARTICK = false ∨ Vbwsak.from_ th 0 1000000 = false ∨ ws.isEmpty = true ∨ 32 < ws.length ∨ (ws.all fun w => Vbwsak.from_ w 0 1000000) = false) := by
        rintro (z | z | z | z | z)
        · exact hc' (.inl z)
        · exact hc' (.inr (.inl z))
        · exact hemp z
        · omega
        · exact hg' z
      have w3 : SqL K H3 wa (ws.map V.int) := s3.seq w2
      have ews := nats_of hall
      have hsum : ws.sum = ((Vbwsak.sumOf (ws.map Int.toNat) : Nat) : Int) := by
        rw [← sum_ints, ← ews]
      refine ⟨_, rfl, wa, ws, rfl, w3, rfl, _, rfl, ite2 (fun hz => ?_) fun hz => ?_⟩
      · have hz' : ws.sum = 0 := by
          have := of_decide_eq_true hz
          injection this
        have h0 : (ws.all fun w => w == 0) = true := by
          refine List.all_eq_true.mpr fun x hx => ?_
          rw [hsum] at hz'
          have := (sum_zero.mp (by omega)) x.toNat (List.mem_map.mpr ⟨x, hx, rfl⟩)
          have := hall x hx
          exact beq_iff_eq.mpr (by omega)
        exact ⟨by show 1 ≤ sizeLine; decide, fun l hl => stays hS k [-4] ((if_neg hneg).trans (if_pos h0)) s03 hl⟩
      · have hz' : ¬ ws.sum = 0 := fun z => hz (decide_eq_true (by rw [z]))
        have h0 : ¬ (ws.all fun w => w == 0) = true := fun z => hz' (by
          rw [hsum]
          have : Vbwsak.sumOf (ws.map Int.toNat) = 0 := sum_zero.mpr fun x hx => by
            obtain ⟨y, hy, rfl⟩ := List.mem_map.mp hx
            have := eq_of_beq (List.all_eq_true.mp z y hy)
            rw [this]
            rfl
          rw [this]
          rfl)
        have S3 := hS.same s03
        have f3 : H3 L.p = some _ := S3.ses
        have hN3 := s03.seq hN
        refine ⟨_, rfl, L.p, S, L.dx, _, _, rfl, f3, T.cS, T.S0, rfl, _, rfl, nb, _, _, _, rfl, rfl, hN3, atI_nat (j := 0) rfl, _, rfl, nb, _, _, _, rfl, rfl, hN3, atI_nat (j := 1) rfl, _, rfl, st.seed, ti.toNat, th.toNat, wa, ws.map Int.toNat, ?_, ?_, ?_, fun H4 s4 => ⟨by show 2 ≤ sizeLine; decide, fun l hl => ?_⟩⟩
        · rw [Int.toNat_of_nonneg (by omega), Int.toNat_of_nonneg (by omega)]
        · rw [ints_map, ← ews]
          exact w3
        · rw [hsum] at hz'
          omega
        · exact stays hS k [0, (Vbwsak.pick st.seed ti.toNat th.toNat (ws.map Int.toNat) : Int)] ((if_neg hneg).trans (if_neg h0)) (s03.trans s4) hl
end
end TS
end
section
set_option Elab.async false
set_option linter.all false
set_option maxRecDepth 100000
set_option maxHeartbeats 2000000
/-! ### calls as one list of numbers -/
namespace TS
open PyFlat
theorem whole_id (c : List (List Int)) : PyVbwsak.whole c = c := by
  unfold PyVbwsak.whole
  split <;> rfl
theorem call0 {p : Int} {r : List Int} {n : Nat} {c : List (List Int)} {t : List Int} (hs : PyVbwsak.shape p = some (n, 0)) (h : PyFlat.call PyVbwsak.shape (p :: r) = some (c, t)) : n ≤ r.length ∧ c = [p :: r.take n] ∧ t = r.drop n := by
  unfold PyFlat.call at h; dsimp only at h
  rw [hs] at h
  dsimp only at h
  split at h
  · cases h
  · rename_i hl
    rw [show PyFlat.rows 0 (r.drop n) = some ([], r.drop n) from rfl] at h
    have h' := Option.some.inj h
    injection h' with h1 h2
    exact ⟨by omega, h1.symm, h2.symm⟩
theorem call1 {p : Int} {r : List Int} {n : Nat} {c : List (List Int)} {t : List Int} (hs : PyVbwsak.shape p = some (n, 1)) (h : PyFlat.call PyVbwsak.shape (p :: r) = some (c, t)) :
    ∃ (m : Nat) (r' : List Int), n ≤ r.length ∧ r.drop n = (m : Int) :: r' ∧ m ≤ r'.length ∧ c = [p :: r.take n, r'.take m] ∧ t = r'.drop m := by
  unfold PyFlat.call at h; dsimp only at h
  rw [hs] at h
  dsimp only at h
  split at h
  · cases h
  · rename_i hl
    cases e : r.drop n with
    | nil =>
      rw [e] at h
      cases h
    | cons m r' =>
      rw [e] at h
      unfold PyFlat.rows PyFlat.row at h; dsimp only at h
      by_cases hm : 0 ≤ m ∧ m.toNat ≤ r'.length
      · rw [if_pos hm] at h
        dsimp only at h
        rw [show PyFlat.rows 0 (r'.drop m.toNat) = some ([], r'.drop m.toNat) from rfl] at h
        have h' := Option.some.inj h
        injection h' with h1 h2
        exact ⟨m.toNat, r', by omega, by rw [Int.toNat_of_nonneg hm.1], hm.2, h1.symm, h2.symm⟩
      · rw [if_neg hm] at h
        cases h
theorem one_of {r : List Int} (h : 1 ≤ r.length) : ∃ x1 r', r = x1 :: r' := match r, h with | x1 :: r', _ => ⟨x1, r', rfl⟩
theorem two_of {r : List Int} (h : 2 ≤ r.length) : ∃ x1 x2 r', r = x1 :: x2 :: r' := match r, h with | x1 :: x2 :: r', _ => ⟨x1, x2, r', rfl⟩
theorem three_of {r : List Int} (h : 3 ≤ r.length) : ∃ x1 x2 x3 r', r = x1 :: x2 :: x3 :: r' := match r, h with | x1 :: x2 :: x3 :: r', _ => ⟨x1, x2, x3, r', rfl⟩
theorem four_of {r : List Int} (h : 4 ≤ r.length) : ∃ x1 x2 x3 x4 r', r = x1 :: x2 :: x3 :: x4 :: r' := match r, h with | x1 :: x2 :: x3 :: x4 :: r', _ => ⟨x1, x2, x3, x4, r', rfl⟩
/-- a call of the list is one of the document's -/
theorem parse {p : Int} {r : List Int} {c : List (List Int)} {t : List Int} (h : PyFlat.call PyVbwsak.shape (p :: r) = some (c, t)) (ha : VbwsakNeutral.asked1 c = true) :
    ∃ d : Vbwsak.Call, VbwsakNeutral.callOf c = some d ∧ p :: r = ((numsOf d).1 : Int) :: ((numsOf d).2 ++ t) ∧ (numsOf d).2.length ≤ 100 := by
  by_cases e0 : p = 0
  · subst e0
    obtain ⟨hl, rfl, rfl⟩ := call0 (n := 3) rfl h
    obtain ⟨a, b, q, r', rfl⟩ := three_of hl
    exact ⟨.begin_ a b q, rfl, rfl, by show 3 ≤ 100; decide⟩
  by_cases e1 : p = 1
  · subst e1
    obtain ⟨hl, rfl, rfl⟩ := call0 (n := 2) rfl h
    obtain ⟨a, b, r', rfl⟩ := two_of hl
    exact ⟨.join a b, rfl, rfl, by show 2 ≤ 100; decide⟩
  by_cases e2 : p = 2
  · subst e2
    obtain ⟨hl, rfl, rfl⟩ := call0 (n := 1) rfl h
    obtain ⟨a, r', rfl⟩ := one_of hl
    exact ⟨.leave a, rfl, rfl, by show 1 ≤ 100; decide⟩
  by_cases e3 : p = 3
  · subst e3
    obtain ⟨hl, rfl, rfl⟩ := call0 (n := 4) rfl h
    obtain ⟨a, b, q, d, r', rfl⟩ := four_of hl
    exact ⟨.job a b q d, rfl, rfl, by show 4 ≤ 100; decide⟩
  by_cases e4 : p = 4
  · subst e4
    obtain ⟨hl, rfl, rfl⟩ := call0 (n := 1) rfl h
    obtain ⟨a, r', rfl⟩ := one_of hl
    exact ⟨.drop a, rfl, rfl, by show 1 ≤ 100; decide⟩
  by_cases e5 : p = 5
  · subst e5
    obtain ⟨hl, rfl, rfl⟩ := call0 (n := 1) rfl h
    obtain ⟨a, r', rfl⟩ := one_of hl
    exact ⟨.tick a, rfl, rfl, by show 1 ≤ 100; decide⟩
  by_cases e6 : p = 6
  · subst e6
    obtain ⟨hl, rfl, rfl⟩ := call0 (n := 1) rfl h
    obtain ⟨a, r', rfl⟩ := one_of hl
    exact ⟨.queue a, rfl, rfl, by show 1 ≤ 100; decide⟩
  by_cases e7 : p = 7
  · subst e7
    obtain ⟨hl, rfl, rfl⟩ := call0 (n := 0) rfl h
    exact ⟨.players, rfl, rfl, by show 0 ≤ 100; decide⟩
  by_cases e8 : p = 8
  · subst e8
    obtain ⟨hl, rfl, rfl⟩ := call0 (n := 2) rfl h
    obtain ⟨a, b, r', rfl⟩ := two_of hl
    exact ⟨.weigh a b, rfl, rfl, by show 2 ≤ 100; decide⟩
  by_cases e9 : p = 9
  · subst e9
    obtain ⟨hl, rfl, rfl⟩ := call0 (n := 4) rfl h
    obtain ⟨a, b, q, d, r', rfl⟩ := four_of hl
    exact ⟨.draw a b q d, rfl, rfl, by show 4 ≤ 100; decide⟩
  by_cases e10 : p = 10
  · subst e10
    obtain ⟨hl, rfl, rfl⟩ := call0 (n := 3) rfl h
    obtain ⟨a, b, q, r', rfl⟩ := three_of hl
    exact ⟨.raw a b q, rfl, rfl, by show 3 ≤ 100; decide⟩
  by_cases e11 : p = 11
  · subst e11
    obtain ⟨hl, rfl, rfl⟩ := call0 (n := 3) rfl h
    obtain ⟨a, b, q, r', rfl⟩ := three_of hl
    exact ⟨.shuffle a b q, rfl, rfl, by show 3 ≤ 100; decide⟩
  by_cases e12 : p = 12
  · subst e12
    obtain ⟨m, r', hl, hd, hm, rfl, rfl⟩ := call1 (n := 2) rfl h
    obtain ⟨a, b, r2, rfl⟩ := two_of hl
    have hd' : r2 = (m : Int) :: r' := hd
    subst hd'
    have hlen : (r'.take m).length = m := by rw [List.length_take]; omega
    have hb : (r'.take m).length ≤ 60 := by
      have ha' : (VbwsakNeutral.whole60 a && (VbwsakNeutral.whole60 b && (decide ((r'.take m).length ≤ 60) && (r'.take m).all (fun (z : Int) => VbwsakNeutral.whole60 z)))) = true := ha
      simp only [Bool.and_eq_true, decide_eq_true_eq] at ha'
      exact ha'.2.2.1
    refine ⟨.pick a b (r'.take m), rfl, ?_, ?_⟩
    · show 12 :: a :: b :: (m : Int) :: r' = 12 :: (a :: b :: ((r'.take m).length : Int) :: r'.take m ++ r'.drop m)
      rw [hlen, List.cons_append, List.cons_append, List.cons_append, List.take_append_drop]
    · show (r'.take m).length + 3 ≤ 100
      omega
  by_cases e13 : p = 13
  · subst e13
    obtain ⟨hl, rfl, rfl⟩ := call0 (n := 1) rfl h
    obtain ⟨a, r', rfl⟩ := one_of hl
    exact ⟨.bound a, rfl, rfl, by show 1 ≤ 100; decide⟩
  by_cases e14 : p = 14
  · subst e14
    obtain ⟨hl, rfl, rfl⟩ := call0 (n := 1) rfl h
    obtain ⟨a, r', rfl⟩ := one_of hl
    exact ⟨.try_ a, rfl, rfl, by show 1 ≤ 100; decide⟩
  by_cases e15 : p = 15
  · subst e15
    obtain ⟨hl, rfl, rfl⟩ := call0 (n := 0) rfl h
    exact ⟨.state, rfl, rfl, by show 0 ≤ 100; decide⟩
  exfalso
  have hs : PyVbwsak.shape p = none := by
    unfold PyVbwsak.shape
    rw [if_neg e0, if_neg e1, if_neg e2, if_neg e3, if_neg e4, if_neg e5, if_neg e6, if_neg e7, if_neg e8, if_neg e9, if_neg e10, if_neg e11, if_neg e12, if_neg e13, if_neg e14, if_neg e15]
  unfold PyFlat.call at h; dsimp only at h
  rw [hs] at h
  cases h
/-! how long an answer may be -/
theorem doneRow_len (l : List Vbwsak.Done) : (Vbwsak.doneRow l).length = 3 * l.length := flat_len _ 3 (fun _ => rfl) l
theorem ite_len {c : Prop} [Decidable c] {x y : Vbwsak.State × List Int} {n : Nat} (h1 : x.2.length ≤ n) (h2 : y.2.length ≤ n) : (if c then x else y).2.length ≤ n := by split <;> assumption
theorem step_len {s : Vbwsak.State} (h : WF s) (c : Vbwsak.Call) : (Vbwsak.step s c).2.length ≤ 300 := by
  have h64 := h.j64
  have h8 := h.n8
  have no : ∀ k, (Vbwsak.no s k).2.length ≤ 300 := fun k => by show 1 ≤ 300; decide
  cases c with
  | begin_ a b q => exact ite_len (no 1) (by show 1 ≤ 300; decide)
  | join a b => exact ite_len (no 1) (ite_len (no 3) (ite_len (no 5) (by show 2 ≤ 300; decide)))
  | leave a =>
    show (match Vbwsak.findPlayer s a with | none => _ | some x => _ : Vbwsak.State × List Int).2.length ≤ 300
    split
    · exact no 2
    · show 2 ≤ 300; decide
  | job a b q d =>
    refine ite_len (no 1) ?_
    split
    · exact no 2
    · exact ite_len (no 5) (by show 2 ≤ 300; decide)
  | drop a => exact ite_len (no 2) (by show 1 ≤ 300; decide)
  | tick a =>
    refine ite_len (no 1) (ite_len (no 5) ?_)
    have := (WF.tickedBy a.toNat h).2.1
    show (Vbwsak.doneRow (Vbwsak.tickedBy a.toNat s).2).length + 1 + 1 ≤ 300
    rw [doneRow_len]
    omega
  | queue a =>
    show (match Vbwsak.findPlayer s a with | none => _ | some x => _ : Vbwsak.State × List Int).2.length ≤ 300
    split
    · exact no 2
    · rename_i x hx
      obtain ⟨i, hi⟩ := List.mem_iff_getElem?.mp (List.mem_of_find?_eq_some hx)
      have := jobs_le h hi
      show (jobRow x.jobs).length + 1 ≤ 300
      unfold jobRow
      rw [flat_len _ 4 (fun _ => rfl)]
      omega
  | players =>
    show (plRow s.players).length + 1 ≤ 300
    unfold plRow
    rw [flat_len _ 5 (fun _ => rfl)]
    omega
  | weigh a b =>
    refine ite_len (no 1) ?_
    split
    · exact no 2
    · show 1 ≤ 300; decide
  | draw a b q d => exact ite_len (no 1) (by show 2 ≤ 300; decide)
  | raw a b q => exact ite_len (no 1) (by show 3 ≤ 300; decide)
  | shuffle a b n =>
    by_cases hc : Vbwsak.from_ a 0 Vbwsak.FARTICK = false ∨ Vbwsak.from_ b 0 1000000 = false ∨ Vbwsak.from_ n 0 64 = false
    · have e : Vbwsak.step s (.shuffle a b n) = Vbwsak.no s 1 := if_pos hc
      rw [e]
      exact no 1
    · have e : Vbwsak.step s (.shuffle a b n) = Vbwsak.yes s ((Vbwsak.shuffled s.seed a.toNat b.toNat n.toNat).map fun (i : Nat) => (i : Int)) := if_neg hc
      rw [e]
      have c3 := from_t fun z => hc (.inr (.inr z))
      have hz : ∀ (m : Nat) (r : List Nat), (Vbwsak.shuffleFrom s.seed a.toNat b.toNat m r).length = r.length := fun m => by
        induction m with
        | zero => intro r; rfl
        | succ m ih =>
          intro r
          rw [Vbwsak.shuffleFrom.eq_2]
          split
          · rfl
          · rw [ih]
            unfold Vbwsak.exchanged
            rw [List.length_set, List.length_set]
      show ((Vbwsak.shuffled s.seed a.toNat b.toNat n.toNat).map fun (i : Nat) => (i : Int)).length + 1 ≤ 300
      unfold Vbwsak.shuffled
      rw [List.length_map, hz, List.length_range]
      omega
  | pick a b ws => exact ite_len (no 1) (ite_len (no 4) (by show 2 ≤ 300; decide))
  | bound a =>
    show (match Vbwsak.findPlayer s a with | none => _ | some x => _ : Vbwsak.State × List Int).2.length ≤ 300
    split
    · exact no 2
    · exact ite_len (no 4) (by show 2 ≤ 300; decide)
  | try_ a =>
    refine ite_len (no 1) ?_
    have := (WF.tickedBy a.toNat h).2.1
    show (Vbwsak.doneRow (Vbwsak.tickedBy a.toNat s).2).length + 1 ≤ 300
    rw [doneRow_len]
    omega
  | state => show 9 ≤ 300; decide
end TS
end
section
set_option Elab.async false
set_option linter.all false
set_option maxRecDepth 100000
set_option maxHeartbeats 2000000
/-! ### the list of calls -/
namespace TS
open PySem PySem.Spec PyProof.Rows L2 TR
theorem cast_nat (n : Nat) : ((n : Nat) : Int) = Int.ofNat n := rfl
section
variable {P : Program} {w : World} {K : PySem.W.Frag} {mg : Str → Option Value} {base : Heap} {J Pl S : Addr}
def spAnswer (K : PySem.W.Frag) (J Pl S : Addr) : Sp := fun vs H Q _ => ∃ (L : Lay) (s : Vbwsak.State) (nb : Addr) (c : Vbwsak.Call), vs = [.ref L.p, .int ((numsOf c).1 : Int), .ref nb] ∧ SAt J Pl S H L s ∧ WF s ∧ SqL K H nb ((numsOf c).2.map V.int) ∧ (numsOf c).2.length ≤ 100 ∧
  ∀ (H' : Hp) (L' : Lay) (l : Addr), L'.p = L.p → SAt J Pl S H' L' (Vbwsak.step s c).1 → Ch H H' L L' → H' l = some (.lst ((Vbwsak.step s c).2.map V.int)) → Fr H L l → Q (.ref l) H'
def ansNames : List Str := ["answer_begin", "answer_join", "answer_leave", "answer_job", "answer_drop", "answer_tick", "answer_queue", "answer_players", "answer_weigh", "answer_draw", "answer_raw", "answer_shuffle", "answer_pick", "answer_bound", "answer_try", "answer_state"]
theorem all_ans (T : Txt K mg J Pl S) : ∀ (n : Nat) (x : Str), ansNames[n]? = some x → FG P w K mg base 8 x (spAns K J Pl S n)
  | 0, x, h => by cases h; exact ok_a0 T
  | 1, x, h => by cases h; exact ok_a1 T
  | 2, x, h => by cases h; exact ok_a2 T
  | 3, x, h => by cases h; exact ok_a3 T
  | 4, x, h => by cases h; exact ok_a4 T
  | 5, x, h => by cases h; exact ok_a5 T
  | 6, x, h => by cases h; exact ok_a6 T
  | 7, x, h => by cases h; exact ok_a7 T
  | 8, x, h => by cases h; exact ok_a8 T
  | 9, x, h => by cases h; exact ok_a9 T
  | 10, x, h => by cases h; exact ok_a10 T
  | 11, x, h => by cases h; exact ok_a11 T
  | 12, x, h => by cases h; exact ok_a12 T
  | 13, x, h => by cases h; exact ok_a13 T
  | 14, x, h => by cases h; exact ok_a14 T
  | 15, x, h => by cases h; exact ok_a15 T
  | n + 16, x, h => by cases h
theorem num_lt (c : Vbwsak.Call) : (numsOf c).1 < 16 := by cases c <;> exact Nat.le_of_ble_eq_true rfl
theorem ok_answer (T : Txt K mg J Pl S) : FG P w K mg base 9 "answer" (spAnswer K J Pl S) := by
  refine FG.of (k := 8) T.d_answer sc_answer (fun vs H Q E h => by obtain ⟨_, _, _, _, rfl, _⟩ := h; rfl) fun f cdv A outer s H vs Q E hr h => ?_
  obtain ⟨L, st, nb, c, rfl, hS, hW, hN, hl, k⟩ := h
  obtain ⟨ta, fs, hm, hq, hfs⟩ := T.g_ANSWERS
  have gt : GT K mg "ANSWERS" (fs.map V.ref) := ⟨ta, hm, hq⟩
  refine ⟨_, (pss_one (ps_ret (pe_vx (pe_ix ix_tup (pe_gt gt) (pv 1) (fun _ _ => rfl)) (pa_cons (pv 0) (pa_cons (pv 2) pa_nil))))), ?_⟩
  have hx : ∃ x, ansNames[(numsOf c).1]? = some x := ⟨_, List.getElem?_eq_getElem (by show _ < 16; exact num_lt c)⟩
  obtain ⟨x, hx⟩ := hx
  obtain ⟨g, hg, G⟩ := all_ans (P := P) (w := w) (base := base) T _ x hx
  have hf : fs[(numsOf c).1]? = some g := by
    have e := congrArg (fun l => l[(numsOf c).1]?) hfs
    rw [List.getElem?_map, List.getElem?_map] at e
    have hx' : (["answer_begin", "answer_join", "answer_leave", "answer_job", "answer_drop", "answer_tick", "answer_queue", "answer_players", "answer_weigh", "answer_draw", "answer_raw", "answer_shuffle", "answer_pick", "answer_bound", "answer_try", "answer_state"] : List Str)[(numsOf c).1]? = some x := hx
    rw [hx'] at e
    cases z : fs[(numsOf c).1]? with
    | none => rw [z] at e; cases e
    | some g' =>
      rw [z] at e
      have e' : some (Value.ref g') = mg x := Option.some.inj e
      rw [hg] at e'
      cases e'
      rfl
  exact fun a ha => ⟨_, rfl, a, _, _, _, rfl, rfl, ha _, atI_nat (refs_at hf), g, 8, _, rfl, G, hr, _, rfl, _, rfl, L, st, nb, c, rfl, rfl, hS, hW, hN, hl, k⟩
def spEnd (K : PySem.W.Frag) : Sp := fun vs H Q _ => ∃ (a : Addr) (ns : List Int) (i : Nat) (c : Vbwsak.Call) (t : List Int), vs = [.ref a, .int i] ∧ SqL K H a (ns.map V.int) ∧ ns.drop i = ((numsOf c).1 : Int) :: ((numsOf c).2 ++ t) ∧ Q (.int ((i + 1 + (numsOf c).2.length : Nat) : Int)) H
theorem drop_at {ns : List Int} {i : Nat} {l : List Int} (h : ns.drop i = l) {j : Nat} {x : Int} (hx : l[j]? = some x) : (ns.map V.int)[i + j]? = some (.int x) := by
  rw [List.getElem?_map, ← List.getElem?_drop, h, hx]
  rfl
def lens : List Int := [3, 2, 1, 4, 1, 1, 1, 0, 2, 4, 3, 3, 3, 1, 1, 0]
theorem lens_at (c : Vbwsak.Call) : ∃ z : Int, lens[(numsOf c).1]? = some z ∧ (((numsOf c).1 = 12 → z = 3) ∧ ((numsOf c).1 ≠ 12 → z = ((numsOf c).2.length : Int))) := by
  cases c <;> refine ⟨_, rfl, fun h => ?_, fun h => ?_⟩ <;> first | rfl | (cases h; done) | (exact absurd rfl h)
theorem ok_end (T : Txt K mg J Pl S) : FG P w K mg base 1 "end_of_call" (spEnd K) := by
  refine FG.of (k := 0) T.d_end_of_call sc_end_of_call (fun vs H Q E h => by obtain ⟨_, _, _, _, _, rfl, _⟩ := h; rfl) fun f cdv A outer s H vs Q E hr h => ?_
  obtain ⟨a, ns, i, c, t, rfl, hA, hd, k⟩ := h
  obtain ⟨z, hz, hz12, hzn⟩ := lens_at c
  have h0 : (ns.map V.int)[i]? = some (.int ((numsOf c).1 : Int)) := drop_at (j := 0) hd rfl
  refine ⟨_, (pss_cons (ps_set (i := 2) sc_end_of_call.nd rfl (Or.inl rfl) (pe_ix ix_list (pv 0) (pv 1) (fun _ _ => rfl)))
      (pss_cons (ps_set (i := 3) sc_end_of_call.nd rfl (Or.inl rfl) (pe_op op_add (pe_op op_add (pv 1) pe_int) (pe_ix ix_tup (pe_gt T.g_LENGTHS) (pv 2) (fun _ _ => rfl))))
      (pss_one (ps_ret (pe_ifExp (pt_cmpR op_eq (pv 2) (pe_g T.g_PICK) (nomark _)) (pe_op op_add (pv 3) (pe_ix ix_list (pv 0) (pe_op op_sub (pv 3) pe_int) (fun _ _ => rfl))) (pv 3)))))), ?_⟩
  have hz' : ([V.int 3, V.int 2, V.int 1, V.int 4, V.int 1, V.int 1, V.int 1, V.int 0, V.int 2, V.int 4, V.int 3, V.int 3, V.int 3, V.int 1, V.int 1, V.int 0])[(numsOf c).1]? = some (.int z) := by
    have e : (lens.map V.int)[(numsOf c).1]? = some (.int z) := by rw [List.getElem?_map, hz]; rfl
    exact e
  refine ⟨_, rfl, _, rfl, a, _, _, _, rfl, rfl, hA, atI_nat h0, ?_⟩
  refine ⟨_, rfl, _, _, rfl, rfl, fun la hla => ⟨_, rfl, la, _, _, _, rfl, rfl, hla _, atI_nat hz', _, _, rfl, rfl, ?_⟩⟩
  refine ⟨_, rfl, rfl, _, rfl, ite2 (fun hc => ?_) fun hc => ?_⟩
  · have hc' : (numsOf c).1 = 12 := by
      have := of_decide_eq_true hc
      injection this with this
      omega
    have z3 := hz12 hc'
    subst z3
    cases c <;> first | (cases hc') | skip
    rename_i ti th ws
    have h3 : (ns.map V.int)[i + 3]? = some (.int (ws.length : Int)) := drop_at (j := 3) hd rfl
    refine ⟨_, rfl, _, rfl, _, rfl, _, _, rfl, rfl, a, _, _, _, rfl, rfl, hA, at_of (j := i + 3) (by omega) h3, _, _, rfl, rfl, ?_⟩
    have e : (i : Int) + 1 + 3 + (ws.length : Int) = ((i + 1 + (ws.length + 3) : Nat) : Int) := by omega
    show Q (.int ((i : Int) + 1 + 3 + (ws.length : Int))) H
    rw [e]
    exact k
  · have hc' : (numsOf c).1 ≠ 12 := fun e => hc (decide_eq_true (by rw [e]; rfl))
    have zn := hzn hc'
    subst zn
    refine ⟨_, rfl, ?_⟩
    have e : (i : Int) + 1 + ((numsOf c).2.length : Int) = ((i + 1 + (numsOf c).2.length : Nat) : Int) := by omega
    show Q (.int ((i : Int) + 1 + ((numsOf c).2.length : Int))) H
    rw [e]
    exact k
end
end TS
end
section
set_option Elab.async false
set_option linter.all false
set_option maxRecDepth 100000
set_option maxHeartbeats 2000000
/-! ### answers -/
namespace TS
open PySem PySem.Spec PyProof.Rows L2 TR
theorem cut_mid {xs : List V} {lo hi : Nat} (h1 : lo ≤ hi) (h2 : hi ≤ xs.length) : cutV xs (some (lo : Int)) (some (hi : Int)) = (xs.drop lo).take (hi - lo) := by
  unfold cutV
  rw [HT.sIx_nat, HT.sIx_nat, Nat.min_eq_left h2, Nat.min_eq_left (Nat.le_trans h1 h2)]
/-- what holds at each turn of the loop over the calls -/
structure Wl (J Pl S : Addr) (ns : List Int) (H : Hp) (x g : Addr) (m i : Nat) (cs : List (List (List Int))) (st : Vbwsak.State) (L : Lay) (gv : List Int) (H' : Hp) : Prop where
  hm : m = ns.length - i
  hi : i ≤ ns.length
  hp : L.p = x
  at_ : SAt J Pl S H' L st
  wf : WF st
  sm : Same H H'
  fr : ∀ b ∈ L.fp, H b = none
  g0 : g ∉ L.fp
  hgv : H' g = some (.lst (gv.map V.int))
  hcs : ∃ f, PyFlat.calls PyVbwsak.shape f (ns.drop i) = some cs
  ask : cs.all VbwsakNeutral.asked1 = true
  len : gv.length + 301 * cs.length ≤ 90300
  eq : PyVbwsak.answers ns = gv ++ PyFlat.told (PyFlat.played VbwsakNeutral.step st cs)
def spAnswers (K : PySem.W.Frag) : Sp := fun vs H Q _ => ∃ (a : Addr) (ns : List Int), vs = [.ref a] ∧ SqL K H a (ns.map V.int) ∧ PyVbwsak.answers_asked ns = true ∧ ∀ (H' : Hp) (p : Addr), H' p = some (.lst ((PyVbwsak.answers ns).map V.int)) → Q (.ref p) H'
theorem asked_of {ns : List Int} (h : PyVbwsak.answers_asked ns = true) : ∃ cs, PyFlat.calls PyVbwsak.shape ns.length ns = some cs ∧ cs.all VbwsakNeutral.asked1 = true ∧ cs.length ≤ 300 ∧ PyVbwsak.answers ns = PyFlat.told (PyFlat.played VbwsakNeutral.step Vbwsak.start cs) := by
  unfold PyVbwsak.answers_asked at h
  have hc : PyVbwsak.calls ns = PyFlat.calls PyVbwsak.shape ns.length ns := by
    unfold PyVbwsak.calls
    cases PyFlat.calls PyVbwsak.shape ns.length ns with
    | none => rfl
    | some cs =>
      dsimp only
      rw [show cs.map PyVbwsak.whole = cs from (List.map_congr_left fun c _ => whole_id c).trans (List.map_id' cs)]
  unfold PyVbwsak.answers
  rw [hc] at h ⊢
  cases e : PyFlat.calls PyVbwsak.shape ns.length ns with
  | none => rw [e] at h; cases h
  | some cs =>
    rw [e] at h
    have h' : (PyFlat.atMost 300 cs && (cs.all VbwsakNeutral.asked1 && (decide (1 ≤ cs.length) && decide (cs.length ≤ 300)))) = true := h
    rw [Bool.and_eq_true, Bool.and_eq_true] at h'
    exact ⟨cs, rfl, h'.2.1, of_decide_eq_true h'.1, rfl⟩
section
variable {P : Program} {w : World} {K : PySem.W.Frag} {mg : Str → Option Value} {base : Heap} {J Pl S : Addr}
theorem bd_answers (T : Txt K mg J Pl S) : Body P w K mg base 9 "answers" s_answers ["calls", "session", "given", "start", "end", "row"] (spAnswers K) := by
  refine fun f cdv A outer s H vs Q E hr h => ?_
  obtain ⟨a, ns, rfl, hA, hask, k⟩ := h
  obtain ⟨cs0, hcs0, hall0, hlen0, heq0⟩ := asked_of hask
  refine ⟨_, (pss_cons (ps_set (i := 1) sc_answers.nd rfl (Or.inl rfl) (pe_kx0 (ok_Session T) (hr.mono (by decide)) T.mS))
      (pss_cons (ps_set (i := 2) sc_answers.nd rfl (Or.inl rfl) (pe_lst pa_nil))
      (pss_cons (ps_set (i := 3) sc_answers.nd rfl (Or.inl rfl) pe_int)
      (pss_cons (ps_while PassesOwn.never (pt_cmpR op_lt (pv 3) (pe_callB call_len_seq rfl T.b_len PySem.boot_len (pa_cons (pv 0) pa_nil)) (nomark _))
      (pss_cons (ps_set (i := 4) sc_answers.nd rfl (Or.inl rfl) (pe_fg (ok_end T) (hr.mono (by decide)) (pa_cons (pv 0) (pa_cons (pv 3) pa_nil))))
      (pss_cons (ps_set (i := 5) sc_answers.nd rfl (Or.inl rfl) (pe_fg (ok_answer T) hr (pa_cons (pv 1) (pa_cons (pe_ix ix_list (pv 0) (pv 3) (fun _ _ => rfl)) (pa_cons (pe_slice sl_list (pv 0) (po_some (pe_op op_add (pv 3) pe_int)) (po_some (pv 4))) pa_nil)))))
      (pss_cons (ps_expr (pe_bm PySem.F.plainAttrs_list PySem.F.slot_list_append PySem.F.type_list_append mt_append (pv 2) (pa_cons (pe_callB call_len_seq rfl T.b_len PySem.boot_len (pa_cons (pv 5) pa_nil)) pa_nil)))
      (pss_cons (ps_expr (pe_bm PySem.F.plainAttrs_list PySem.F.slot_list_extend PySem.F.type_list_extend mt_extend (pv 2) (pa_cons (pv 5) pa_nil)))
      (pss_one (ps_set (i := 3) sc_answers.nd rfl (Or.inl rfl) (pv 4))))))))
      (pss_one (ps_ret (pv 2))))))), ?_⟩
  refine fun x dx hx hdx ndx => ⟨x, dx, rfl, upd_same, fun pl hpl => ⟨rfl, ?_⟩⟩
  generalize hH1 : upd (upd (upd (upd H dx (.own x)) x (.ins S dx [])) pl (.lst [])) x (.ins S dx (sf 0 20000 100 pl 0 1 0 false 0)) = H1
  have s1 : Same H H1 := by
    rw [← hH1]
    exact Same.upd (Same.trans (Same.upd (Same.new hdx) hx) (Same.new hpl)) hx
  have x1 : H1 x = some (.ins S dx (sf 0 20000 100 pl 0 1 0 false 0)) := by rw [← hH1]; exact upd_same
  have nxp : x ≠ pl := ne_of_none upd_same hpl
  have pl1 : H1 pl = some (.lst []) := by rw [← hH1, upd_ne (Ne.symm nxp)]; exact upd_same
  have hpl0 : H pl = none := (Same.upd (Same.new hdx) hx : Same H (upd (upd H dx (.own x)) x (.ins S dx []))).free hpl
  refine ⟨Nat.zero_le _, fun g hg => ?_⟩
  have s2 : Same H1 (upd H1 g (.lst [])) := Same.new hg
  have S2 : SAt J Pl S (upd H1 g (.lst [])) ⟨x, dx, pl, [], []⟩ Vbwsak.start := ⟨s2 _ _ x1, s2 _ _ pl1, rfl, rfl, fun i a jl q h => by simp at h, List.nodup_nil, List.nodup_nil, by simp⟩
  have hg0 : H g = none := s1.free hg
  refine ⟨fun m σ H' => ∃ (i : Nat) (cs : List (List (List Int))) (st : Vbwsak.State) (L : Lay) (gv : List Int) (v4 v5 : Option V), σ = [some (.ref a), some (.ref x), some (.ref g), some (.int i), v4, v5] ∧ Wl J Pl S ns H x g m i cs st L gv H', ⟨_, 0, cs0, Vbwsak.start, ⟨x, dx, pl, [], []⟩, [], none, none, rfl, rfl, Nat.zero_le _, rfl, S2, wf_start, s1.trans s2, ?_, ?_, upd_same, ⟨_, hcs0⟩, hall0, by show 0 + _ ≤ _; omega, heq0⟩, ?_⟩
  · intro b hb
    have hb' : b = x ∨ b = pl := by simpa [Lay.fp] using hb
    rcases hb' with rfl | rfl
    · exact hx
    · exact hpl0
  · intro z
    have hb' : g = x ∨ g = pl := by simpa [Lay.fp] using z
    rcases hb' with rfl | rfl
    · rw [hg] at x1; cases x1
    · rw [hg] at pl1; cases pl1
  rintro m σ H' ⟨i, cs, st, L, gv, v4, v5, rfl, wl⟩
  have hA' : SqL K H' a (ns.map V.int) := wl.sm.seq hA
  obtain ⟨f0, hf⟩ := wl.hcs
  refine ⟨_, rfl, _, rfl, a, _, rfl, .inl hA', _, _, rfl, rfl, _, rfl, ite2 (fun hc => ?_) fun hc => ?_⟩
  rotate_left
  · have hi : ns.length ≤ i := by
      refine Nat.le_of_not_lt fun z => hc (decide_eq_true ?_)
      rw [List.length_map]
      omega
    rw [List.drop_eq_nil_of_le hi] at hf
    have hcs : cs = [] := by
      cases f0 with
      | zero => exact (Option.some.inj hf).symm
      | succ f0 => exact (Option.some.inj hf).symm
    subst hcs
    have e := wl.eq
    rw [show PyFlat.told (PyFlat.played VbwsakNeutral.step st []) = [] from rfl, List.append_nil] at e
    refine ⟨_, rfl, k H' g ?_⟩
    rw [e]
    exact wl.hgv
  have hi : i < ns.length := by
    have := of_decide_eq_true hc
    rw [List.length_map] at this
    omega
  obtain ⟨p, r, hpr⟩ : ∃ p r, ns.drop i = p :: r := ⟨_, _, List.drop_eq_getElem_cons hi⟩
  rw [hpr] at hf
  obtain ⟨c, t, cs', f1, hcall, hcs', rfl⟩ : ∃ c t cs' f1, PyFlat.call PyVbwsak.shape (p :: r) = some (c, t) ∧ PyFlat.calls PyVbwsak.shape f1 t = some cs' ∧ cs = c :: cs' := by
    cases f0 with
    | zero => cases hf
    | succ f1 =>
      rw [PyFlat.calls.eq_3] at hf
      cases e1 : PyFlat.call PyVbwsak.shape (p :: r) with
      | none => rw [e1] at hf; cases hf
      | some ct =>
        obtain ⟨c, t⟩ := ct
        rw [e1] at hf
        dsimp only at hf
        cases e2 : PyFlat.calls PyVbwsak.shape f1 t with
        | none => rw [e2] at hf; cases hf
        | some cs' =>
          rw [e2] at hf
          exact ⟨c, t, cs', f1, rfl, e2, (Option.some.inj hf).symm⟩
  have hask' := wl.ask
  rw [List.all_cons, Bool.and_eq_true] at hask'
  obtain ⟨d, hd, hpn, hd100⟩ := parse hcall hask'.1
  rw [hpn] at hpr
  have hstep : VbwsakNeutral.step st c = Vbwsak.step st d := by
    unfold VbwsakNeutral.step
    rw [hd]
  have hlen : i + 1 + (numsOf d).2.length + t.length = ns.length := by
    have e := congrArg List.length hpr
    rw [List.length_drop, List.length_cons, List.length_append] at e
    omega
  have hdrop : ns.drop (i + 1 + (numsOf d).2.length) = t := by
    have e1 : ns.drop (i + 1) = (numsOf d).2 ++ t := by
      rw [← List.drop_drop, hpr]
      rfl
    rw [← List.drop_drop, e1]
    exact List.drop_left
  have wp := wl.hp
  subst wp
  refine ⟨fun σ' H2 => ∃ m', m' < m ∧ ∃ (i : Nat) (cs : List (List (List Int))) (st : Vbwsak.State) (L' : Lay) (gv : List Int) (v4 v5 : Option V), σ' = [some (.ref a), some (.ref L.p), some (.ref g), some (.int i), v4, v5] ∧ Wl J Pl S ns H L.p g m' i cs st L' gv H2, fun σ' H2 z => z, ?_⟩
  refine ⟨_, rfl, _, rfl, a, ns, i, d, t, rfl, hA', hpr, ?_⟩
  refine ⟨_, rfl, _, rfl, _, rfl, a, _, _, _, rfl, rfl, hA', atI_nat (drop_at (j := 0) hpr rfl), _, rfl, _, rfl, _, _, rfl, rfl, _, rfl, _, rfl, _, rfl, a, _, rfl, hA', fun nb hnb => ?_⟩
  have ecut : cutV (ns.map V.int) (some ((i : Int) + 1)) (some ((i + 1 + (numsOf d).2.length : Nat) : Int)) = (numsOf d).2.map V.int := by
    have e0 : (i : Int) + 1 = ((i + 1 : Nat) : Int) := rfl
    rw [e0, cut_mid (by omega) (by rw [List.length_map]; omega), ← List.map_drop, ← List.map_take]
    have e1 : ns.drop (i + 1) = (numsOf d).2 ++ t := by
      rw [← List.drop_drop, hpr]
      rfl
    rw [e1, show i + 1 + (numsOf d).2.length - (i + 1) = (numsOf d).2.length by omega, List.take_left]
  rw [ecut]
  have s3 : Same H' (upd H' nb (.lst ((numsOf d).2.map V.int))) := Same.new hnb
  refine ⟨L, st, nb, d, rfl, wl.at_.same s3, wl.wf, SqL.of upd_same, hd100, fun H2 L2' l hp S2' c2 e2 fr2 => ?_⟩
  have hW2 := wl.wf.step d
  have g2 : H2 g = some (.lst (gv.map V.int)) := c2.keep _ _ (s3 _ _ wl.hgv) wl.g0
  have ngl : g ≠ l := fr2 _ _ (s3 _ _ wl.hgv) wl.g0
  have gfp : g ∉ L2'.fp := fun z => by
    rcases c2.fresh g z with h | h
    · exact wl.g0 h
    · rw [s3 _ _ wl.hgv] at h
      cases h
  have hrl := step_len wl.wf d
  have hl := wl.len
  rw [List.length_cons] at hl
  refine ⟨_, rfl, .inl ⟨rfl, _, SqL.of g2⟩, _, rfl, l, _, rfl, .inl (SqL.of e2), g, _, _, rfl, rfl, g2, by rw [List.length_map, sizeLine_eq]; omega, ?_⟩
  refine ⟨_, rfl, .inl ⟨rfl, _, SqL.of upd_same⟩, _, rfl, g, l, _, _, rfl, rfl, upd_same, by rw [upd_ne (Ne.symm ngl)]; exact e2, ?_, ?_⟩
  · rw [List.length_append, List.length_map, List.length_map, sizeLine_eq]
    show gv.length + 1 + _ ≤ _
    omega
  rw [upd_upd]
  refine ⟨_, rfl, ns.length - (i + 1 + (numsOf d).2.length), by have := wl.hm; omega, i + 1 + (numsOf d).2.length, cs', (Vbwsak.step st d).1, L2', gv ++ ((Vbwsak.step st d).2.length : Int) :: (Vbwsak.step st d).2, _, _, rfl, rfl, by omega, hp, S2'.list g2 gfp, hW2, fun b o e => ?_, fun b hb => ?_, gfp, ?_, ⟨f1, by rw [hdrop]; exact hcs'⟩, hask'.2, ?_, ?_⟩
  · rw [upd_ne (ne_of_none e hg0)]
    exact c2.keep _ _ (s3 _ _ (wl.sm _ _ e)) fun z => by
      have := wl.fr b z
      rw [e] at this
      cases this
  · rcases c2.fresh b hb with h | h
    · exact wl.fr b h
    · exact (wl.sm.trans s3).free h
  · rw [upd_same]
    congr 2
    rw [List.map_append, List.length_map, List.append_assoc]
    rfl
  · rw [List.length_append, List.length_cons]
    omega
  · rw [wl.eq]
    rw [show PyFlat.played VbwsakNeutral.step st (c :: cs') = (VbwsakNeutral.step st c).2 :: PyFlat.played VbwsakNeutral.step (VbwsakNeutral.step st c).1 cs' from rfl, hstep, List.append_assoc]
    rfl
/-- the row's def, whatever the base -/
theorem top_answers {fa : Addr} (T : Txt K mg J Pl S) (hfa : mg "answers" = some (.ref fa)) : ∃ fd : FuncData, (∀ (s : Shared) (us : List Value), us.length = (["calls"] : List Str).length → BindsTo s fd ⟨us, []⟩ ((["calls"] : List Str).zip us)) ∧
    ∀ base : Heap, K.In base → base.Ns mainGlobals mg → FnOk P w K mg base CX0 10 fa fd ["calls"] (spAnswers K) := by
  obtain ⟨f, hm, ⟨fd, Fu, b⟩⟩ := T.d_answers
  rw [hfa] at hm
  cases hm
  have G : ∀ base : Heap, FnOk P w K mg base CX0 10 fa fd ["calls"] (spAnswers K) := fun base => Fu.ok sc_answers (fun vs H Q E h => by obtain ⟨_, _, rfl, _⟩ := h; rfl) (bd_answers T fa)
  obtain ⟨oc, od, kV, doc, pm, an, cdv, ct, osl, rfl, lk, hcd⟩ := Fu.ex
  exact ⟨_, fun s us hu => match us, hu with | [_], _ => .of_eq rfl, fun base _ _ => G base⟩
end
end TS
end
set_option Elab.async false
set_option linter.all false
set_option maxRecDepth 100000
set_option maxHeartbeats 2000000
/-! ### what the top has written, fact by fact -/
namespace TS
open PySem PySem.Spec PyProof.Rows L2 TR
section
variable {K : PySem.W.Frag} {h : Heap} {mg : Str → Option Value} {x qual : Str} {st : Stmt} {ps : List Str} {f C a : Addr} {od an : Option Addr} {sl : Array (Option Value)} {oc kV dc pm cd ct : Value}
theorem gv_mk {n : Int} {t : Tok} (X : K.In h) (G : h.Ns mainGlobals mg) (e : PySem.W.nsIn K mainGlobals x = some (some (.int n t))) : GV mg x (.int n) := ⟨_, PySem.W.mg_of X G e, ⟨t, rfl⟩⟩
theorem gt2_mk {i j : Int} {t u : Tok} {n : Nat} (X : K.In h) (G : h.Ns mainGlobals mg) (e : PySem.W.nsIn K mainGlobals x = some (some (.ref a))) (l : K.lookup a = some ⟨.type "tuple", od, .seq #[.int i t, .int j u] n, sl⟩) : GT K mg x [.int i, .int j] :=
  ⟨a, PySem.W.mg_of X G e, fun H => .inr ⟨_, _, _, l, rfl, rfl, by show 2 ≤ sizeLine; decide, .cons ⟨t, rfl⟩ (.cons ⟨u, rfl⟩ .nil)⟩⟩
theorem def_mk (l : K.lookup f = some ⟨oc, od, .func (PySem.W.fnOf x qual (defArgs st) (defBody st) (defScope st) .none kV dc pm an cd ct), sl⟩) (c : PySem.W.codeIn K cd qual = true) (k : PySem.W.keepIn K (.ref f) = true)
    (b : ∀ (kV doc pm : Value) (an : Option Addr) (cdv ct : Value) (us : List Value), us.length = ps.length → bindArgs (PySem.W.fnOf x qual (defArgs st) (defBody st) (defScope st) .none kV doc pm an cdv ct) ⟨us, []⟩ = pure (ps.zip us)) : Def K x qual st f ps :=
  ⟨_, fun_mk (st := st) l c k, (fun_mk (st := st) l c k).binds b⟩
theorem dg_mk (X : K.In h) (G : h.Ns mainGlobals mg) (e : PySem.W.nsIn K mainGlobals x = some (some (.ref f))) (l : K.lookup f = some ⟨oc, od, .func (PySem.W.fnOf x x (defArgs st) (defBody st) (defScope st) .none kV dc pm an cd ct), sl⟩) (c : PySem.W.codeIn K cd x = true) (k : PySem.W.keepIn K (.ref f) = true)
    (b : ∀ (kV doc pm : Value) (an : Option Addr) (cdv ct : Value) (us : List Value), us.length = ps.length → bindArgs (PySem.W.fnOf x x (defArgs st) (defBody st) (defScope st) .none kV doc pm an cdv ct) ⟨us, []⟩ = pure (ps.zip us)) : Dg K mg x st ps := ⟨f, PySem.W.mg_of X G e, def_mk l c k b⟩
theorem dm_mk (e : PySem.W.findIn K (.ref C) x = some (some (.ref f))) (i : PySem.W.isFn K (.ref f) = true) (l : K.lookup f = some ⟨oc, od, .func (PySem.W.fnOf x qual (defArgs st) (defBody st) (defScope st) .none kV dc pm an cd ct), sl⟩) (c : PySem.W.codeIn K cd qual = true) (k : PySem.W.keepIn K (.ref f) = true)
    (b : ∀ (kV doc pm : Value) (an : Option Addr) (cdv ct : Value) (us : List Value), us.length = ps.length → bindArgs (PySem.W.fnOf x qual (defArgs st) (defBody st) (defScope st) .none kV doc pm an cdv ct) ⟨us, []⟩ = pure (ps.zip us)) : Dm K C x qual st ps := ⟨f, ⟨e, i, k⟩, def_mk l c k b⟩
theorem dk_mk (e : PySem.W.findIn K (.ref C) "__init__" = some (some (.ref f))) (i : PySem.W.isFn K (.ref f) = true) (l : K.lookup f = some ⟨oc, od, .func (PySem.W.fnOf "__init__" qual (defArgs st) (defBody st) (defScope st) .none kV dc pm an cd ct), sl⟩) (c : PySem.W.codeIn K cd qual = true) (k : PySem.W.keepIn K (.ref f) = true) (mk : PySem.W.makesIn K C = true) (kc : PySem.W.keepIn K (.ref C) = true)
    (b : ∀ (kV doc pm : Value) (an : Option Addr) (cdv ct : Value) (us : List Value), us.length = ps.length → bindArgs (PySem.W.fnOf "__init__" qual (defArgs st) (defBody st) (defScope st) .none kV doc pm an cdv ct) ⟨us, []⟩ = pure (ps.zip us)) : Dk K C qual st ps := ⟨f, ⟨mk, e, i, kc⟩, def_mk l c k b⟩
end

theorem all_nil {K : PySem.W.Frag} {C : Addr} : ∀ f ∈ ([] : List Str), NoAttr K C f := fun f h => by cases h
theorem all_cons {K : PySem.W.Frag} {C : Addr} {x : Str} {l : List Str} (e : PySem.W.findIn K (.ref C) x = some none) (r : ∀ f ∈ l, NoAttr K C f) : ∀ f ∈ x :: l, NoAttr K C f := fun f h => by
  cases h with
  | head => exact e
  | tail _ h => exact r f h
theorem gt16_mk {K : PySem.W.Frag} {h : Heap} {mg : Str → Option Value} {x : Str} {a : Addr} {od : Option Addr} {sl : Array (Option Value)} {i0 i1 i2 i3 i4 i5 i6 i7 i8 i9 i10 i11 i12 i13 i14 i15 : Int} {t0 t1 t2 t3 t4 t5 t6 t7 t8 t9 t10 t11 t12 t13 t14 t15 : Tok} {n : Nat} (X : K.In h) (G : h.Ns mainGlobals mg) (e : PySem.W.nsIn K mainGlobals x = some (some (.ref a))) (l : K.lookup a = some ⟨.type "tuple", od, .seq #[.int i0 t0, .int i1 t1, .int i2 t2, .int i3 t3, .int i4 t4, .int i5 t5, .int i6 t6, .int i7 t7, .int i8 t8, .int i9 t9, .int i10 t10, .int i11 t11, .int i12 t12, .int i13 t13, .int i14 t14, .int i15 t15] n, sl⟩) : GT K mg x [.int i0, .int i1, .int i2, .int i3, .int i4, .int i5, .int i6, .int i7, .int i8, .int i9, .int i10, .int i11, .int i12, .int i13, .int i14, .int i15] :=
  ⟨a, PySem.W.mg_of X G e, fun H => .inr ⟨_, _, _, l, rfl, rfl, by show 16 ≤ sizeLine; decide, (.cons ⟨t0, rfl⟩ (.cons ⟨t1, rfl⟩ (.cons ⟨t2, rfl⟩ (.cons ⟨t3, rfl⟩ (.cons ⟨t4, rfl⟩ (.cons ⟨t5, rfl⟩ (.cons ⟨t6, rfl⟩ (.cons ⟨t7, rfl⟩ (.cons ⟨t8, rfl⟩ (.cons ⟨t9, rfl⟩ (.cons ⟨t10, rfl⟩ (.cons ⟨t11, rfl⟩ (.cons ⟨t12, rfl⟩ (.cons ⟨t13, rfl⟩ (.cons ⟨t14, rfl⟩ (.cons ⟨t15, rfl⟩ .nil))))))))))))))))⟩⟩
theorem an_mk {K : PySem.W.Frag} {h : Heap} {mg : Str → Option Value} {a : Addr} {od : Option Addr} {sl : Array (Option Value)} {f0 f1 f2 f3 f4 f5 f6 f7 f8 f9 f10 f11 f12 f13 f14 f15 : Addr} {n : Nat} (X : K.In h) (G : h.Ns mainGlobals mg) (e : PySem.W.nsIn K mainGlobals "ANSWERS" = some (some (.ref a))) (l : K.lookup a = some ⟨.type "tuple", od, .seq #[.ref f0, .ref f1, .ref f2, .ref f3, .ref f4, .ref f5, .ref f6, .ref f7, .ref f8, .ref f9, .ref f10, .ref f11, .ref f12, .ref f13, .ref f14, .ref f15] n, sl⟩)
    (h0 : PySem.W.nsIn K mainGlobals "answer_begin" = some (some (.ref f0)))
    (h1 : PySem.W.nsIn K mainGlobals "answer_join" = some (some (.ref f1)))
    (h2 : PySem.W.nsIn K mainGlobals "answer_leave" = some (some (.ref f2)))
    (h3 : PySem.W.nsIn K mainGlobals "answer_job" = some (some (.ref f3)))
    (h4 : PySem.W.nsIn K mainGlobals "answer_drop" = some (some (.ref f4)))
    (h5 : PySem.W.nsIn K mainGlobals "answer_tick" = some (some (.ref f5)))
    (h6 : PySem.W.nsIn K mainGlobals "answer_queue" = some (some (.ref f6)))
    (h7 : PySem.W.nsIn K mainGlobals "answer_players" = some (some (.ref f7)))
    (h8 : PySem.W.nsIn K mainGlobals "answer_weigh" = some (some (.ref f8)))
    (h9 : PySem.W.nsIn K mainGlobals "answer_draw" = some (some (.ref f9)))
    (h10 : PySem.W.nsIn K mainGlobals "answer_raw" = some (some (.ref f10)))
    (h11 : PySem.W.nsIn K mainGlobals "answer_shuffle" = some (some (.ref f11)))
    (h12 : PySem.W.nsIn K mainGlobals "answer_pick" = some (some (.ref f12)))
    (h13 : PySem.W.nsIn K mainGlobals "answer_bound" = some (some (.ref f13)))
    (h14 : PySem.W.nsIn K mainGlobals "answer_try" = some (some (.ref f14)))
    (h15 : PySem.W.nsIn K mainGlobals "answer_state" = some (some (.ref f15))) :
    ∃ (a : Addr) (fs : List Addr), mg "ANSWERS" = some (.ref a) ∧ (∀ H, SqT K H a (fs.map V.ref)) ∧ fs.map (fun f => some (Value.ref f)) = (["answer_begin", "answer_join", "answer_leave", "answer_job", "answer_drop", "answer_tick", "answer_queue", "answer_players", "answer_weigh", "answer_draw", "answer_raw", "answer_shuffle", "answer_pick", "answer_bound", "answer_try", "answer_state"] : List Str).map mg := by
  refine ⟨a, [f0, f1, f2, f3, f4, f5, f6, f7, f8, f9, f10, f11, f12, f13, f14, f15], PySem.W.mg_of X G e, fun H => .inr ⟨_, _, _, l, rfl, rfl, by show 16 ≤ sizeLine; decide, (.cons rfl (.cons rfl (.cons rfl (.cons rfl (.cons rfl (.cons rfl (.cons rfl (.cons rfl (.cons rfl (.cons rfl (.cons rfl (.cons rfl (.cons rfl (.cons rfl (.cons rfl (.cons rfl .nil))))))))))))))))⟩, ?_⟩
  simp only [List.map_cons, List.map_nil, PySem.W.mg_of X G h0, PySem.W.mg_of X G h1, PySem.W.mg_of X G h2, PySem.W.mg_of X G h3, PySem.W.mg_of X G h4, PySem.W.mg_of X G h5, PySem.W.mg_of X G h6, PySem.W.mg_of X G h7, PySem.W.mg_of X G h8, PySem.W.mg_of X G h9, PySem.W.mg_of X G h10, PySem.W.mg_of X G h11, PySem.W.mg_of X G h12, PySem.W.mg_of X G h13, PySem.W.mg_of X G h14, PySem.W.mg_of X G h15]
end TS
open PySem PySem.W PyProof.Rows
set_option maxRecDepth 100000 in
set_option maxHeartbeats 0 in
theorem PySem.Challenge.cw_turnshares_s01_answers_holds : PySem.Challenge.rw_turnshares_s01_answers.Holds := by
  w_on
  refine holds_os (q := TH.qv) (loose := TH.lo) (Xt := TH.xt) (XP := XL TH.qv []) (Yf := Hook.obs (kHook TH.KK TH.KA TH.ka)) (Ya := Hook.val (kHook TH.KK TH.KA TH.ka)) (YP := Hook.says (kHook TH.KK TH.KA TH.ka)) (N := 5032) TH.left (Hook.of (kHook TH.KK TH.KA TH.ka)) (Hook.keeps (kHook TH.KK TH.KA TH.ka)) (fun s e => xl_of s (Bool.and_eq_true_iff.mp e).1) XL.keeps (by rfl) (by rfl) (by rfl) (fun s e => recFacts_of (Bool.and_eq_true_iff.mp e).2) (os_shapes) (by decide +kernel) (by decide +kernel) ⟨rfl, rfl, rfl, rfl, rfl, by decide +kernel⟩ ?hw ?hc
  case hw => exact ⟨[.list [.int 7]], by decide +kernel, by decide +kernel⟩
  k_fillS
  refine L2.walk_specK (r := PySem.Challenge.rw_turnshares_s01_answers) (k := 10) (CX := L2.CX0) (ps := ["calls"]) (sp := TS.spAnswers) (by decide +kernel) rfl rfl ⟨rfl, by decide, by decide⟩ (fun w h Y => PySem.W.kIn_of Y) ?F ?S (fun _ _ _ _ z => z)
  case F =>
    intro w mg fa h Y KX G hmg
    refine' TS.top_answers (J := ?aJ) (Pl := ?aP) (S := ?aS) ⟨
      ⟨?pgJ, ?hdJ, ?poJ, ?saJ⟩,
      ⟨?pgPl, ?hdPl, ?poPl, ?saPl⟩,
      ⟨?pgS, ?hdS, ?poS, ?saS⟩,
      (TS.all_cons ?nJ_number (TS.all_cons ?nJ_thing (TS.all_cons ?nJ_cost (TS.all_cons ?nJ_sides TS.all_nil)))),
      (TS.all_cons ?nPl_number (TS.all_cons ?nPl_weight (TS.all_cons ?nPl_jobs (TS.all_cons ?nPl_saved (TS.all_cons ?nPl_done TS.all_nil))))),
      (TS.all_cons ?nS_seed (TS.all_cons ?nS_budget (TS.all_cons ?nS_quantum (TS.all_cons ?nS_players (TS.all_cons ?nS_tick (TS.all_cons ?nS_next_job (TS.all_cons ?nS_turn (TS.all_cons ?nS_begun (TS.all_cons ?nS_spent TS.all_nil))))))))),
      (PySem.W.mg_of KX G ?mJ),
      (PySem.W.mg_of KX G ?mPl),
      (PySem.W.mg_of KX G ?mS),
      (PySem.W.mg_none_of KX G ?b_range),
      (PySem.W.mg_none_of KX G ?b_len),
      (PySem.W.mg_none_of KX G ?b_sum),
      (PySem.W.mg_none_of KX G ?b_list),
      (PySem.W.mg_none_of KX G ?b_zip),
      (PySem.W.mg_none_of KX G ?b_enumerate),
      (TS.gv_mk KX G ?g_WORD),
      (TS.gv_mk KX G ?g_G),
      (TS.gv_mk KX G ?g_LAST_TRY),
      (TS.gv_mk KX G ?g_GREATEST_COST),
      (TS.gv_mk KX G ?g_GREATEST_WEIGHT),
      (TS.gv_mk KX G ?g_NOT_IN_RANGE),
      (TS.gv_mk KX G ?g_NOT_THERE),
      (TS.gv_mk KX G ?g_THERE_ALREADY),
      (TS.gv_mk KX G ?g_NOTHING),
      (TS.gv_mk KX G ?g_NO_PLACE),
      (TS.gv_mk KX G ?g_MOST_PLAYERS),
      (TS.gv_mk KX G ?g_MOST_JOBS),
      (TS.gv_mk KX G ?g_LAST_TICK),
      (TS.gv_mk KX G ?g_HALF_WORD),
      (TS.gv_mk KX G ?g_PICK),
      (TS.gt2_mk KX G ?g_SEEDS ?gl_SEEDS),
      (TS.gt2_mk KX G ?g_BUDGETS ?gl_BUDGETS),
      (TS.gt2_mk KX G ?g_QUANTUMS ?gl_QUANTUMS),
      (TS.gt2_mk KX G ?g_PLAYERS ?gl_PLAYERS),
      (TS.gt2_mk KX G ?g_WEIGHTS ?gl_WEIGHTS),
      (TS.gt2_mk KX G ?g_THINGS ?gl_THINGS),
      (TS.gt2_mk KX G ?g_COSTS ?gl_COSTS),
      (TS.gt2_mk KX G ?g_SIDES ?gl_SIDES),
      (TS.gt2_mk KX G ?g_TICKS_AT_ONCE ?gl_TICKS_AT_ONCE),
      (TS.gt2_mk KX G ?g_TICKS ?gl_TICKS),
      (TS.gt2_mk KX G ?g_COUNTS ?gl_COUNTS),
      (TS.gt2_mk KX G ?g_SHUFFLED ?gl_SHUFFLED),
      (TS.gt2_mk KX G ?g_ROW_LENGTHS ?gl_ROW_LENGTHS),
      (TS.gt2_mk KX G ?g_ROW_WEIGHTS ?gl_ROW_WEIGHTS),
      (TS.gt16_mk KX G ?g_LENGTHS ?gl_LENGTHS),
      (TS.dg_mk KX G ?e_stirred ?l_stirred ?c_stirred ?k_stirred (fun _ _ _ _ _ _ us hl => match us, hl with | [_], _ => rfl)),
      (TS.dg_mk KX G ?e_stirred_in ?l_stirred_in ?c_stirred_in ?k_stirred_in (fun _ _ _ _ _ _ us hl => match us, hl with | [_, _], _ => rfl)),
      (TS.dg_mk KX G ?e_raw_number ?l_raw_number ?c_raw_number ?k_raw_number (fun _ _ _ _ _ _ us hl => match us, hl with | [_, _, _, _, _], _ => rfl)),
      (TS.dg_mk KX G ?e_draw ?l_draw ?c_draw ?k_draw (fun _ _ _ _ _ _ us hl => match us, hl with | [_, _, _, _, _], _ => rfl)),
      (TS.dg_mk KX G ?e_shuffled ?l_shuffled ?c_shuffled ?k_shuffled (fun _ _ _ _ _ _ us hl => match us, hl with | [_, _, _, _], _ => rfl)),
      (TS.dg_mk KX G ?e_picked ?l_picked ?c_picked ?k_picked (fun _ _ _ _ _ _ us hl => match us, hl with | [_, _, _, _], _ => rfl)),
      (TS.dk_mk ?e_Job___init__ ?i_Job___init__ ?l_Job___init__ ?c_Job___init__ ?k_Job___init__ ?mkJ ?kcJ (fun _ _ _ _ _ _ us hl => match us, hl with | [_, _, _, _, _], _ => rfl)),
      (TS.dk_mk ?e_Player___init__ ?i_Player___init__ ?l_Player___init__ ?c_Player___init__ ?k_Player___init__ ?mkPl ?kcPl (fun _ _ _ _ _ _ us hl => match us, hl with | [_, _, _], _ => rfl)),
      (TS.dm_mk ?e_Player_take_job ?i_Player_take_job ?l_Player_take_job ?c_Player_take_job ?k_Player_take_job (fun _ _ _ _ _ _ us hl => match us, hl with | [_, _], _ => rfl)),
      (TS.dm_mk ?e_Player_copied ?i_Player_copied ?l_Player_copied ?c_Player_copied ?k_Player_copied (fun _ _ _ _ _ _ us hl => match us, hl with | [_], _ => rfl)),
      (TS.dk_mk ?e_Session___init__ ?i_Session___init__ ?l_Session___init__ ?c_Session___init__ ?k_Session___init__ ?mkS ?kcS (fun _ _ _ _ _ _ us hl => match us, hl with | [_], _ => rfl)),
      (TS.dm_mk ?e_Session_begin ?i_Session_begin ?l_Session_begin ?c_Session_begin ?k_Session_begin (fun _ _ _ _ _ _ us hl => match us, hl with | [_, _, _, _], _ => rfl)),
      (TS.dm_mk ?e_Session_copied ?i_Session_copied ?l_Session_copied ?c_Session_copied ?k_Session_copied (fun _ _ _ _ _ _ us hl => match us, hl with | [_], _ => rfl)),
      (TS.dm_mk ?e_Session_place_of ?i_Session_place_of ?l_Session_place_of ?c_Session_place_of ?k_Session_place_of (fun _ _ _ _ _ _ us hl => match us, hl with | [_, _], _ => rfl)),
      (TS.dm_mk ?e_Session_find_player ?i_Session_find_player ?l_Session_find_player ?c_Session_find_player ?k_Session_find_player (fun _ _ _ _ _ _ us hl => match us, hl with | [_, _], _ => rfl)),
      (TS.dm_mk ?e_Session_count_jobs ?i_Session_count_jobs ?l_Session_count_jobs ?c_Session_count_jobs ?k_Session_count_jobs (fun _ _ _ _ _ _ us hl => match us, hl with | [_], _ => rfl)),
      (TS.dm_mk ?e_Session_add_job ?i_Session_add_job ?l_Session_add_job ?c_Session_add_job ?k_Session_add_job (fun _ _ _ _ _ _ us hl => match us, hl with | [_, _, _, _, _], _ => rfl)),
      (TS.dm_mk ?e_Session_drop_job ?i_Session_drop_job ?l_Session_drop_job ?c_Session_drop_job ?k_Session_drop_job (fun _ _ _ _ _ _ us hl => match us, hl with | [_, _], _ => rfl)),
      (TS.dm_mk ?e_Session_remove_player ?i_Session_remove_player ?l_Session_remove_player ?c_Session_remove_player ?k_Session_remove_player (fun _ _ _ _ _ _ us hl => match us, hl with | [_, _], _ => rfl)),
      (TS.dm_mk ?e_Session_give_turn ?i_Session_give_turn ?l_Session_give_turn ?c_Session_give_turn ?k_Session_give_turn (fun _ _ _ _ _ _ us hl => match us, hl with | [_, _], _ => rfl)),
      (TS.dm_mk ?e_Session_pass_turn ?i_Session_pass_turn ?l_Session_pass_turn ?c_Session_pass_turn ?k_Session_pass_turn (fun _ _ _ _ _ _ us hl => match us, hl with | [_], _ => rfl)),
      (TS.dm_mk ?e_Session_run_ticks ?i_Session_run_ticks ?l_Session_run_ticks ?c_Session_run_ticks ?k_Session_run_ticks (fun _ _ _ _ _ _ us hl => match us, hl with | [_, _], _ => rfl)),
      (TS.dm_mk ?e_Session_run_tick ?i_Session_run_tick ?l_Session_run_tick ?c_Session_run_tick ?k_Session_run_tick (fun _ _ _ _ _ _ us hl => match us, hl with | [_], _ => rfl)),
      (TS.dm_mk ?e_Session_do_job ?i_Session_do_job ?l_Session_do_job ?c_Session_do_job ?k_Session_do_job (fun _ _ _ _ _ _ us hl => match us, hl with | [_, _, _], _ => rfl)),
      (TS.dm_mk ?e_Session_bound_of ?i_Session_bound_of ?l_Session_bound_of ?c_Session_bound_of ?k_Session_bound_of (fun _ _ _ _ _ _ us hl => match us, hl with | [_, _], _ => rfl)),
      (TS.dg_mk KX G ?e_all_within ?l_all_within ?c_all_within ?k_all_within (fun _ _ _ _ _ _ us hl => match us, hl with | [_, _], _ => rfl)),
      (TS.dg_mk KX G ?e_answer_begin ?l_answer_begin ?c_answer_begin ?k_answer_begin (fun _ _ _ _ _ _ us hl => match us, hl with | [_, _], _ => rfl)),
      (TS.dg_mk KX G ?e_answer_join ?l_answer_join ?c_answer_join ?k_answer_join (fun _ _ _ _ _ _ us hl => match us, hl with | [_, _], _ => rfl)),
      (TS.dg_mk KX G ?e_answer_leave ?l_answer_leave ?c_answer_leave ?k_answer_leave (fun _ _ _ _ _ _ us hl => match us, hl with | [_, _], _ => rfl)),
      (TS.dg_mk KX G ?e_answer_job ?l_answer_job ?c_answer_job ?k_answer_job (fun _ _ _ _ _ _ us hl => match us, hl with | [_, _], _ => rfl)),
      (TS.dg_mk KX G ?e_answer_drop ?l_answer_drop ?c_answer_drop ?k_answer_drop (fun _ _ _ _ _ _ us hl => match us, hl with | [_, _], _ => rfl)),
      (TS.dg_mk KX G ?e_answer_tick ?l_answer_tick ?c_answer_tick ?k_answer_tick (fun _ _ _ _ _ _ us hl => match us, hl with | [_, _], _ => rfl)),
      (TS.dg_mk KX G ?e_answer_queue ?l_answer_queue ?c_answer_queue ?k_answer_queue (fun _ _ _ _ _ _ us hl => match us, hl with | [_, _], _ => rfl)),
      (TS.dg_mk KX G ?e_answer_players ?l_answer_players ?c_answer_players ?k_answer_players (fun _ _ _ _ _ _ us hl => match us, hl with | [_, _], _ => rfl)),
      (TS.dg_mk KX G ?e_answer_weigh ?l_answer_weigh ?c_answer_weigh ?k_answer_weigh (fun _ _ _ _ _ _ us hl => match us, hl with | [_, _], _ => rfl)),
      (TS.dg_mk KX G ?e_answer_draw ?l_answer_draw ?c_answer_draw ?k_answer_draw (fun _ _ _ _ _ _ us hl => match us, hl with | [_, _], _ => rfl)),
      (TS.dg_mk KX G ?e_answer_raw ?l_answer_raw ?c_answer_raw ?k_answer_raw (fun _ _ _ _ _ _ us hl => match us, hl with | [_, _], _ => rfl)),
      (TS.dg_mk KX G ?e_answer_shuffle ?l_answer_shuffle ?c_answer_shuffle ?k_answer_shuffle (fun _ _ _ _ _ _ us hl => match us, hl with | [_, _], _ => rfl)),
      (TS.dg_mk KX G ?e_answer_pick ?l_answer_pick ?c_answer_pick ?k_answer_pick (fun _ _ _ _ _ _ us hl => match us, hl with | [_, _], _ => rfl)),
      (TS.dg_mk KX G ?e_answer_bound ?l_answer_bound ?c_answer_bound ?k_answer_bound (fun _ _ _ _ _ _ us hl => match us, hl with | [_, _], _ => rfl)),
      (TS.dg_mk KX G ?e_answer_try ?l_answer_try ?c_answer_try ?k_answer_try (fun _ _ _ _ _ _ us hl => match us, hl with | [_, _], _ => rfl)),
      (TS.dg_mk KX G ?e_answer_state ?l_answer_state ?c_answer_state ?k_answer_state (fun _ _ _ _ _ _ us hl => match us, hl with | [_, _], _ => rfl)),
      (TS.dg_mk KX G ?e_answer ?l_answer ?c_answer ?k_answer (fun _ _ _ _ _ _ us hl => match us, hl with | [_, _, _], _ => rfl)),
      (TS.dg_mk KX G ?e_end_of_call ?l_end_of_call ?c_end_of_call ?k_end_of_call (fun _ _ _ _ _ _ us hl => match us, hl with | [_, _], _ => rfl)),
      (TS.dg_mk KX G ?e_answers ?l_answers ?c_answers ?k_answers (fun _ _ _ _ _ _ us hl => match us, hl with | [_], _ => rfl)),
      (TS.an_mk KX G ?an_e ?an_l ?an_0 ?an_1 ?an_2 ?an_3 ?an_4 ?an_5 ?an_6 ?an_7 ?an_8 ?an_9 ?an_10 ?an_11 ?an_12 ?an_13 ?an_14 ?an_15)⟩ hmg
    (case mJ => k_is); (case mPl => k_is); (case mS => k_is); (case pgJ => k_is); (case hdJ => k_is); (case poJ => k_is); (case saJ => k_is); (case pgPl => k_is)
    (case hdPl => k_is); (case poPl => k_is); (case saPl => k_is); (case pgS => k_is); (case hdS => k_is); (case poS => k_is); (case saS => k_is); (case nJ_sides => k_is)
    (case nJ_cost => k_is); (case nJ_thing => k_is); (case nJ_number => k_is); (case nPl_done => k_is); (case nPl_saved => k_is); (case nPl_jobs => k_is); (case nPl_weight => k_is); (case nPl_number => k_is)
    (case nS_spent => k_is); (case nS_begun => k_is); (case nS_turn => k_is); (case nS_next_job => k_is); (case nS_tick => k_is); (case nS_players => k_is); (case nS_quantum => k_is); (case nS_budget => k_is)
    (case nS_seed => k_is); (case b_range => k_is); (case b_len => k_is); (case b_sum => k_is); (case b_list => k_is); (case b_zip => k_is); (case b_enumerate => k_is); (case g_WORD => k_is)
    (case g_G => k_is); (case g_LAST_TRY => k_is); (case g_GREATEST_COST => k_is); (case g_GREATEST_WEIGHT => k_is); (case g_NOT_IN_RANGE => k_is); (case g_NOT_THERE => k_is); (case g_THERE_ALREADY => k_is); (case g_NOTHING => k_is)
    (case g_NO_PLACE => k_is); (case g_MOST_PLAYERS => k_is); (case g_MOST_JOBS => k_is); (case g_LAST_TICK => k_is); (case g_HALF_WORD => k_is); (case g_PICK => k_is); (case g_SEEDS => k_is); (case gl_SEEDS => k_is)
    (case g_BUDGETS => k_is); (case gl_BUDGETS => k_is); (case g_QUANTUMS => k_is); (case gl_QUANTUMS => k_is); (case g_PLAYERS => k_is); (case gl_PLAYERS => k_is); (case g_WEIGHTS => k_is); (case gl_WEIGHTS => k_is)
    (case g_THINGS => k_is); (case gl_THINGS => k_is); (case g_COSTS => k_is); (case gl_COSTS => k_is); (case g_SIDES => k_is); (case gl_SIDES => k_is); (case g_TICKS_AT_ONCE => k_is); (case gl_TICKS_AT_ONCE => k_is)
    (case g_TICKS => k_is); (case gl_TICKS => k_is); (case g_COUNTS => k_is); (case gl_COUNTS => k_is); (case g_SHUFFLED => k_is); (case gl_SHUFFLED => k_is); (case g_ROW_LENGTHS => k_is); (case gl_ROW_LENGTHS => k_is)
    (case g_ROW_WEIGHTS => k_is); (case gl_ROW_WEIGHTS => k_is); (case g_LENGTHS => k_is); (case gl_LENGTHS => k_is); (case e_stirred => k_is); (case l_stirred => k_is); (case c_stirred => k_is); (case k_stirred => k_is)
    (case e_stirred_in => k_is); (case l_stirred_in => k_is); (case c_stirred_in => k_is); (case k_stirred_in => k_is); (case e_raw_number => k_is); (case l_raw_number => k_is); (case c_raw_number => k_is); (case k_raw_number => k_is)
    (case e_draw => k_is); (case l_draw => k_is); (case c_draw => k_is); (case k_draw => k_is); (case e_shuffled => k_is); (case l_shuffled => k_is); (case c_shuffled => k_is); (case k_shuffled => k_is)
    (case e_picked => k_is); (case l_picked => k_is); (case c_picked => k_is); (case k_picked => k_is); (case e_Job___init__ => k_is); (case i_Job___init__ => k_is); (case l_Job___init__ => k_is); (case c_Job___init__ => k_is)
    (case k_Job___init__ => k_is); (case mkJ => k_is); (case kcJ => k_is); (case e_Player___init__ => k_is); (case i_Player___init__ => k_is); (case l_Player___init__ => k_is); (case c_Player___init__ => k_is); (case k_Player___init__ => k_is)
    (case mkPl => k_is); (case kcPl => k_is); (case e_Player_take_job => k_is); (case i_Player_take_job => k_is); (case l_Player_take_job => k_is); (case c_Player_take_job => k_is); (case k_Player_take_job => k_is); (case e_Player_copied => k_is)
    (case i_Player_copied => k_is); (case l_Player_copied => k_is); (case c_Player_copied => k_is); (case k_Player_copied => k_is); (case e_Session___init__ => k_is); (case i_Session___init__ => k_is); (case l_Session___init__ => k_is); (case c_Session___init__ => k_is)
    (case k_Session___init__ => k_is); (case mkS => k_is); (case kcS => k_is); (case e_Session_begin => k_is); (case i_Session_begin => k_is); (case l_Session_begin => k_is); (case c_Session_begin => k_is); (case k_Session_begin => k_is)
    (case e_Session_copied => k_is); (case i_Session_copied => k_is); (case l_Session_copied => k_is); (case c_Session_copied => k_is); (case k_Session_copied => k_is); (case e_Session_place_of => k_is); (case i_Session_place_of => k_is); (case l_Session_place_of => k_is)
    (case c_Session_place_of => k_is); (case k_Session_place_of => k_is); (case e_Session_find_player => k_is); (case i_Session_find_player => k_is); (case l_Session_find_player => k_is); (case c_Session_find_player => k_is); (case k_Session_find_player => k_is); (case e_Session_count_jobs => k_is)
    (case i_Session_count_jobs => k_is); (case l_Session_count_jobs => k_is); (case c_Session_count_jobs => k_is); (case k_Session_count_jobs => k_is); (case e_Session_add_job => k_is); (case i_Session_add_job => k_is); (case l_Session_add_job => k_is); (case c_Session_add_job => k_is)
    (case k_Session_add_job => k_is); (case e_Session_drop_job => k_is); (case i_Session_drop_job => k_is); (case l_Session_drop_job => k_is); (case c_Session_drop_job => k_is); (case k_Session_drop_job => k_is); (case e_Session_remove_player => k_is); (case i_Session_remove_player => k_is)
    (case l_Session_remove_player => k_is); (case c_Session_remove_player => k_is); (case k_Session_remove_player => k_is); (case e_Session_give_turn => k_is); (case i_Session_give_turn => k_is); (case l_Session_give_turn => k_is); (case c_Session_give_turn => k_is); (case k_Session_give_turn => k_is)
    (case e_Session_pass_turn => k_is); (case i_Session_pass_turn => k_is); (case l_Session_pass_turn => k_is); (case c_Session_pass_turn => k_is); (case k_Session_pass_turn => k_is); (case e_Session_run_ticks => k_is); (case i_Session_run_ticks => k_is); (case l_Session_run_ticks => k_is)
    (case c_Session_run_ticks => k_is); (case k_Session_run_ticks => k_is); (case e_Session_run_tick => k_is); (case i_Session_run_tick => k_is); (case l_Session_run_tick => k_is); (case c_Session_run_tick => k_is); (case k_Session_run_tick => k_is); (case e_Session_do_job => k_is)
    (case i_Session_do_job => k_is); (case l_Session_do_job => k_is); (case c_Session_do_job => k_is); (case k_Session_do_job => k_is); (case e_Session_bound_of => k_is); (case i_Session_bound_of => k_is); (case l_Session_bound_of => k_is); (case c_Session_bound_of => k_is)
    (case k_Session_bound_of => k_is); (case e_all_within => k_is); (case l_all_within => k_is); (case c_all_within => k_is); (case k_all_within => k_is); (case e_answer_begin => k_is); (case l_answer_begin => k_is); (case c_answer_begin => k_is)
    (case k_answer_begin => k_is); (case e_answer_join => k_is); (case l_answer_join => k_is); (case c_answer_join => k_is); (case k_answer_join => k_is); (case e_answer_leave => k_is); (case l_answer_leave => k_is); (case c_answer_leave => k_is)
    (case k_answer_leave => k_is); (case e_answer_job => k_is); (case l_answer_job => k_is); (case c_answer_job => k_is); (case k_answer_job => k_is); (case e_answer_drop => k_is); (case l_answer_drop => k_is); (case c_answer_drop => k_is)
    (case k_answer_drop => k_is); (case e_answer_tick => k_is); (case l_answer_tick => k_is); (case c_answer_tick => k_is); (case k_answer_tick => k_is); (case e_answer_queue => k_is); (case l_answer_queue => k_is); (case c_answer_queue => k_is)
    (case k_answer_queue => k_is); (case e_answer_players => k_is); (case l_answer_players => k_is); (case c_answer_players => k_is); (case k_answer_players => k_is); (case e_answer_weigh => k_is); (case l_answer_weigh => k_is); (case c_answer_weigh => k_is)
    (case k_answer_weigh => k_is); (case e_answer_draw => k_is); (case l_answer_draw => k_is); (case c_answer_draw => k_is); (case k_answer_draw => k_is); (case e_answer_raw => k_is); (case l_answer_raw => k_is); (case c_answer_raw => k_is)
    (case k_answer_raw => k_is); (case e_answer_shuffle => k_is); (case l_answer_shuffle => k_is); (case c_answer_shuffle => k_is); (case k_answer_shuffle => k_is); (case e_answer_pick => k_is); (case l_answer_pick => k_is); (case c_answer_pick => k_is)
    (case k_answer_pick => k_is); (case e_answer_bound => k_is); (case l_answer_bound => k_is); (case c_answer_bound => k_is); (case k_answer_bound => k_is); (case e_answer_try => k_is); (case l_answer_try => k_is); (case c_answer_try => k_is)
    (case k_answer_try => k_is); (case e_answer_state => k_is); (case l_answer_state => k_is); (case c_answer_state => k_is); (case k_answer_state => k_is); (case e_answer => k_is); (case l_answer => k_is); (case c_answer => k_is)
    (case k_answer => k_is); (case e_end_of_call => k_is); (case l_end_of_call => k_is); (case c_end_of_call => k_is); (case k_end_of_call => k_is); (case e_answers => k_is); (case l_answers => k_is); (case c_answers => k_is)
    (case k_answers => k_is); (case an_e => k_is); (case an_l => k_is); (case an_0 => k_is); (case an_1 => k_is); (case an_2 => k_is); (case an_3 => k_is); (case an_4 => k_is)
    (case an_5 => k_is); (case an_6 => k_is); (case an_7 => k_is); (case an_8 => k_is); (case an_9 => k_is); (case an_10 => k_is); (case an_11 => k_is); (case an_12 => k_is)
    (case an_13 => k_is); (case an_14 => k_is); (case an_15 => k_is)
  case S =>
    intro K H xs a hO hwi hask hx
    cases hx with
    | cons h1 h2 =>
      cases h2
      cases h1 with
      | lst hs ha =>
        have e := L2.ints_dw a.1 _ ha
        subst e
        exact ⟨_, a.1, rfl, hs, hask, fun H' p hp => .lst (L2.SqL.of hp) (L2.dw_ints _)⟩
#print axioms PySem.Challenge.cw_turnshares_s01_answers_holds
