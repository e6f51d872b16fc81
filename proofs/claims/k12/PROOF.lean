import PyProof.Rows.All
import Wide.All
import OpenK.AllK
import Wide.FinOn
import KE.KStateDown
import Lean
import HandS.Base
import HandS.Call
import HandS.Ends
import HandS.More
import HandS.Words
import HandS.WordsExc
import HandS.Defaults
import HandS.Head0
import HandS.Head1
import HandS.Head2
import HandS.HeadEnd
import HandS.HeadHook1
import HandS.HeadHook2
import HandS.HeadHook3
import KE.KExcInit
import KE.KExcIs
import HandS.ExcInit
import HandS.ExcField
import KE.KEqNest
import KE.KRevSl
import HandS.ForMost
import HandS.IsInst
import HandS.TupAny
import HandS.TupMul
import HandS.Star
import HandS.FStr
import HandS.Flow
import HandS.Conv
import HandS.Codes
import HandS.RaiseMore
import HandS.Style
import HandS.Zip
import KE.KDictZip
import KE.GoesEnum
import KE.GoesMore
import KE.KDictList
import HandS.StrMore
import HandS.Walk
import HandS.Dict
import KE.DataAny
import HandS.Iter
import HandS.ForExc
import KE.KTryMore
import HandS.MakeKwOnly
import HandS.MakeKw
import PySem.Challenge.RW_rankloop_k12_whole_takers_in_their_order
set_option Elab.async false
set_option linter.all false
set_option maxRecDepth 100000
set_option maxHeartbeats 0
namespace My
open PySem PySem.Spec PyProof.Rows L2
def top (i : Nat) : Stmt := PySem.Challenge.pw_rankloop_k12_whole_takers_in_their_order.main.body.getD i (.Pass ⟨0, 0, 0, 0⟩)
def clsStmt (s : Stmt) (j : Nat) : Stmt := match s with
  | .ClassDef _ _ _ b .. => b.getD j (.Pass ⟨0, 0, 0, 0⟩)
  | s => s
abbrev st_is_between : Stmt := top 18
def d_is_between : He.DefD := ⟨("is_between", none), "is_between", "is_between", defArgs st_is_between, defBody st_is_between, defScope st_is_between, [], []⟩
abbrev st_is_word : Stmt := top 17
def d_is_word : He.DefD := ⟨("is_word", none), "is_word", "is_word", defArgs st_is_word, defBody st_is_word, defScope st_is_word, [], []⟩
abbrev st_is_worth : Stmt := top 19
def d_is_worth : He.DefD := ⟨("is_worth", none), "is_worth", "is_worth", defArgs st_is_worth, defBody st_is_worth, defScope st_is_worth, [], []⟩
abbrev st_is_worth_within : Stmt := top 20
def d_is_worth_within : He.DefD := ⟨("is_worth_within", none), "is_worth_within", "is_worth_within", defArgs st_is_worth_within, defBody st_is_worth_within, defScope st_is_worth_within, [], []⟩
abbrev st_is_names : Stmt := top 21
def d_is_names : He.DefD := ⟨("is_names", none), "is_names", "is_names", defArgs st_is_names, defBody st_is_names, defScope st_is_names, [], []⟩
abbrev st_is_rank : Stmt := top 22
def d_is_rank : He.DefD := ⟨("is_rank", none), "is_rank", "is_rank", defArgs st_is_rank, defBody st_is_rank, defScope st_is_rank, [], []⟩
abbrev st_is_count : Stmt := top 23
def d_is_count : He.DefD := ⟨("is_count", none), "is_count", "is_count", defArgs st_is_count, defBody st_is_count, defScope st_is_count, [], []⟩
abbrev st_is_gap : Stmt := top 24
def d_is_gap : He.DefD := ⟨("is_gap", none), "is_gap", "is_gap", defArgs st_is_gap, defBody st_is_gap, defScope st_is_gap, [], []⟩
abbrev st_is_due : Stmt := top 25
def d_is_due : He.DefD := ⟨("is_due", none), "is_due", "is_due", defArgs st_is_due, defBody st_is_due, defScope st_is_due, [], []⟩
abbrev st_is_script : Stmt := top 27
def d_is_script : He.DefD := ⟨("is_script", none), "is_script", "is_script", defArgs st_is_script, defBody st_is_script, defScope st_is_script, [], []⟩
abbrev st_room_behind : Stmt := top 28
def d_room_behind : He.DefD := ⟨("room_behind", none), "room_behind", "room_behind", defArgs st_room_behind, defBody st_room_behind, defScope st_room_behind, [], []⟩
abbrev st_room_behind_parts : Stmt := top 29
def d_room_behind_parts : He.DefD := ⟨("room_behind_parts", none), "room_behind_parts", "room_behind_parts", defArgs st_room_behind_parts, defBody st_room_behind_parts, defScope st_room_behind_parts, [], []⟩
abbrev st_fits : Stmt := top 30
def d_fits : He.DefD := ⟨("fits", none), "fits", "fits", defArgs st_fits, defBody st_fits, defScope st_fits, [], []⟩
abbrev st_first_state : Stmt := top 42
def d_first_state : He.DefD := ⟨("first_state", none), "first_state", "first_state", defArgs st_first_state, defBody st_first_state, defScope st_first_state, [], []⟩
abbrev st_passes_of : Stmt := top 43
def d_passes_of : He.DefD := ⟨("passes_of", none), "passes_of", "passes_of", defArgs st_passes_of, defBody st_passes_of, defScope st_passes_of, [], []⟩
abbrev st_new_number : Stmt := top 44
def d_new_number : He.DefD := ⟨("new_number", none), "new_number", "new_number", defArgs st_new_number, defBody st_new_number, defScope st_new_number, [], []⟩
abbrev st_own_book : Stmt := top 47
def d_own_book : He.DefD := ⟨("own_book", none), "own_book", "own_book", defArgs st_own_book, defBody st_own_book, defScope st_own_book, [], []⟩
abbrev st_put_work : Stmt := top 77
def d_put_work : He.DefD := ⟨("put_work", none), "put_work", "put_work", defArgs st_put_work, defBody st_put_work, defScope st_put_work, [], []⟩
abbrev st_make_promise : Stmt := top 91
def d_make_promise : He.DefD := ⟨("make_promise", none), "make_promise", "make_promise", defArgs st_make_promise, defBody st_make_promise, defScope st_make_promise, [], []⟩
abbrev st_settle : Stmt := top 92
def d_settle : He.DefD := ⟨("settle", none), "settle", "settle", defArgs st_settle, defBody st_settle, defScope st_settle, [], []⟩
abbrev st_takers_behind : Stmt := top 93
def d_takers_behind : He.DefD := ⟨("takers_behind", none), "takers_behind", "takers_behind", defArgs st_takers_behind, defBody st_takers_behind, defScope st_takers_behind, [], []⟩
abbrev st_micro_of : Stmt := top 94
def d_micro_of : He.DefD := ⟨("micro_of", none), "micro_of", "micro_of", defArgs st_micro_of, defBody st_micro_of, defScope st_micro_of, [], []⟩
abbrev st_put_taker : Stmt := top 95
def d_put_taker : He.DefD := ⟨("put_taker", none), "put_taker", "put_taker", defArgs st_put_taker, defBody st_put_taker, defScope st_put_taker, [], []⟩
abbrev st_take : Stmt := top 96
def d_take : He.DefD := ⟨("take", none), "take", "take", defArgs st_take, defBody st_take, defScope st_take, [], []⟩
abbrev st_tell_unhandled : Stmt := top 97
def d_tell_unhandled : He.DefD := ⟨("tell_unhandled", none), "tell_unhandled", "tell_unhandled", defArgs st_tell_unhandled, defBody st_tell_unhandled, defScope st_tell_unhandled, [], []⟩
abbrev st_follow : Stmt := top 99
def d_follow : He.DefD := ⟨("follow", none), "follow", "follow", defArgs st_follow, defBody st_follow, defScope st_follow, [], []⟩
abbrev st_end_of_row : Stmt := top 100
def d_end_of_row : He.DefD := ⟨("end_of_row", none), "end_of_row", "end_of_row", defArgs st_end_of_row, defBody st_end_of_row, defScope st_end_of_row, [], []⟩
abbrev st_gather_fate : Stmt := top 106
def d_gather_fate : He.DefD := ⟨("gather_fate", none), "gather_fate", "gather_fate", defArgs st_gather_fate, defBody st_gather_fate, defScope st_gather_fate, [], []⟩
abbrev st_do_say : Stmt := top 112
def d_do_say : He.DefD := ⟨("do_say", none), "do_say", "do_say", defArgs st_do_say, defBody st_do_say, defScope st_do_say, [], []⟩
abbrev st_do_echo : Stmt := top 113
def d_do_echo : He.DefD := ⟨("do_echo", none), "do_echo", "do_echo", defArgs st_do_echo, defBody st_do_echo, defScope st_do_echo, [], []⟩
abbrev st_do_make : Stmt := top 122
def d_do_make : He.DefD := ⟨("do_make", none), "do_make", "do_make", defArgs st_do_make, defBody st_do_make, defScope st_do_make, [], []⟩
abbrev st_do_keep : Stmt := top 123
def d_do_keep : He.DefD := ⟨("do_keep", none), "do_keep", "do_keep", defArgs st_do_keep, defBody st_do_keep, defScope st_do_keep, [], []⟩
abbrev st_do_pass : Stmt := top 124
def d_do_pass : He.DefD := ⟨("do_pass", none), "do_pass", "do_pass", defArgs st_do_pass, defBody st_do_pass, defScope st_do_pass, [], []⟩
abbrev st_do_break : Stmt := top 125
def d_do_break : He.DefD := ⟨("do_break", none), "do_break", "do_break", defArgs st_do_break, defBody st_do_break, defScope st_do_break, [], []⟩
abbrev st_do_follow : Stmt := top 126
def d_do_follow : He.DefD := ⟨("do_follow", none), "do_follow", "do_follow", defArgs st_do_follow, defBody st_do_follow, defScope st_do_follow, [], []⟩
abbrev st_do_then : Stmt := top 127
def d_do_then : He.DefD := ⟨("do_then", none), "do_then", "do_then", defArgs st_do_then, defBody st_do_then, defScope st_do_then, [], []⟩
abbrev st_take_turn : Stmt := top 144
def d_take_turn : He.DefD := ⟨("take_turn", none), "take_turn", "take_turn", defArgs st_take_turn, defBody st_take_turn, defScope st_take_turn, [], []⟩
abbrev st_begin_without_works : Stmt := top 146
def d_begin_without_works : He.DefD := ⟨("begin_without_works", none), "begin_without_works", "begin_without_works", defArgs st_begin_without_works, defBody st_begin_without_works, defScope st_begin_without_works, [], []⟩
abbrev st_begin_task : Stmt := top 148
def d_begin_task : He.DefD := ⟨("begin_task", none), "begin_task", "begin_task", defArgs st_begin_task, defBody st_begin_task, defScope st_begin_task, [], []⟩
abbrev st_overdue_rank : Stmt := top 149
def d_overdue_rank : He.DefD := ⟨("overdue_rank", none), "overdue_rank", "overdue_rank", defArgs st_overdue_rank, defBody st_overdue_rank, defScope st_overdue_rank, [], []⟩
abbrev st_begin_fresh : Stmt := top 156
def d_begin_fresh : He.DefD := ⟨("begin_fresh", none), "begin_fresh", "begin_fresh", defArgs st_begin_fresh, defBody st_begin_fresh, defScope st_begin_fresh, [], []⟩
abbrev st_begin : Stmt := top 155
def d_begin : He.DefD := ⟨("begin", none), "begin", "begin", defArgs st_begin, defBody st_begin, defScope st_begin, [], []⟩
abbrev st_end : Stmt := top 159
def d_end : He.DefD := ⟨("end", none), "end", "end", defArgs st_end, defBody st_end, defScope st_end, [], []⟩
abbrev st_go_on : Stmt := top 158
def d_go_on : He.DefD := ⟨("go_on", none), "go_on", "go_on", defArgs st_go_on, defBody st_go_on, defScope st_go_on, [], []⟩
abbrev st_settle_down : Stmt := top 152
def d_settle_down : He.DefD := ⟨("settle_down", none), "settle_down", "settle_down", defArgs st_settle_down, defBody st_settle_down, defScope st_settle_down, [], []⟩
abbrev st_end_run : Stmt := top 154
def d_end_run : He.DefD := ⟨("end_run", none), "end_run", "end_run", defArgs st_end_run, defBody st_end_run, defScope st_end_run, [], []⟩
abbrev st_do_micros : Stmt := top 153
def d_do_micros : He.DefD := ⟨("do_micros", none), "do_micros", "do_micros", defArgs st_do_micros, defBody st_do_micros, defScope st_do_micros, [], []⟩
abbrev st__law_pen : Stmt := top 167
def d__law_pen : He.DefD := ⟨("_law_pen", none), "_law_pen", "_law_pen", defArgs st__law_pen, defBody st__law_pen, defScope st__law_pen, [], []⟩
abbrev st__law_draw : Stmt := top 168
def d__law_draw : He.DefD := ⟨("_law_draw", none), "_law_draw", "_law_draw", defArgs st__law_draw, defBody st__law_draw, defScope st__law_draw, [], []⟩
abbrev st__law_taken : Stmt := top 169
def d__law_taken : He.DefD := ⟨("_law_taken", none), "_law_taken", "_law_taken", defArgs st__law_taken, defBody st__law_taken, defScope st__law_taken, [], []⟩
abbrev st_law : Stmt := top 170
def d_law : He.DefD := ⟨("law", none), "law", "law", defArgs st_law, defBody st_law, defScope st_law, [], []⟩
abbrev st_Setup_init : Stmt := clsStmt (top 39) 0
def d_Setup_init : He.DefD := ⟨("Setup", some "__init__"), "__init__", "Setup.__init__", defArgs st_Setup_init, defBody st_Setup_init, defScope st_Setup_init, [], []⟩
abbrev st_Book_init : Stmt := clsStmt (top 40) 0
def d_Book_init : He.DefD := ⟨("Book", some "__init__"), "__init__", "Book.__init__", defArgs st_Book_init, defBody st_Book_init, defScope st_Book_init, [], []⟩
abbrev st_State_init : Stmt := clsStmt (top 41) 0
def d_State_init : He.DefD := ⟨("State", some "__init__"), "__init__", "State.__init__", defArgs st_State_init, defBody st_State_init, defScope st_State_init, [], []⟩
abbrev st_Work_init : Stmt := clsStmt (top 51) 0
def d_Work_init : He.DefD := ⟨("Work", some "__init__"), "__init__", "Work.__init__", defArgs st_Work_init, defBody st_Work_init, defScope st_Work_init, [], []⟩
abbrev st_Loop_init : Stmt := clsStmt (top 165) 0
def d_Loop_init : He.DefD := ⟨("Loop", some "__init__"), "__init__", "Loop.__init__", defArgs st_Loop_init, defBody st_Loop_init, defScope st_Loop_init, [], [("ranks", .int 3), ("patience", .non), ("flood", .int 100), ("deep", .int 8), ("calls", .non)]⟩
abbrev st_Loop_post : Stmt := clsStmt (top 165) 1
def d_Loop_post : He.DefD := ⟨("Loop", some "post"), "post", "Loop.post", defArgs st_Loop_post, defBody st_Loop_post, defScope st_Loop_post, [], [("rank", .int 0), ("name", .str "work")]⟩
abbrev st_Loop_turn : Stmt := clsStmt (top 165) 2
def d_Loop_turn : He.DefD := ⟨("Loop", some "turn"), "turn", "Loop.turn", defArgs st_Loop_turn, defBody st_Loop_turn, defScope st_Loop_turn, [], []⟩
abbrev st_Loop_turns : Stmt := clsStmt (top 165) 3
def d_Loop_turns : He.DefD := ⟨("Loop", some "turns"), "turns", "Loop.turns", defArgs st_Loop_turns, defBody st_Loop_turns, defScope st_Loop_turns, [.int 400], []⟩
abbrev st_Loop_journal : Stmt := clsStmt (top 165) 6
def d_Loop_journal : He.DefD := ⟨("Loop", some "journal"), "journal", "Loop.journal", defArgs st_Loop_journal, defBody st_Loop_journal, defScope st_Loop_journal, [], []⟩
abbrev st_Loop_promise : Stmt := clsStmt (top 165) 7
def d_Loop_promise : He.DefD := ⟨("Loop", some "promise"), "promise", "Loop.promise", defArgs st_Loop_promise, defBody st_Loop_promise, defScope st_Loop_promise, [], []⟩
abbrev st_Loop_lines : Stmt := clsStmt (top 165) 8
def d_Loop_lines : He.DefD := ⟨("Loop", some "lines"), "lines", "Loop.lines", defArgs st_Loop_lines, defBody st_Loop_lines, defScope st_Loop_lines, [], []⟩
abbrev st_Loop_passes : Stmt := clsStmt (top 165) 9
def d_Loop_passes : He.DefD := ⟨("Loop", some "passes"), "passes", "Loop.passes", defArgs st_Loop_passes, defBody st_Loop_passes, defScope st_Loop_passes, [], []⟩
abbrev st_Loop_now : Stmt := clsStmt (top 165) 4
def d_Loop_now : He.DefD := ⟨("Loop", some "now"), "now", "Loop.now", defArgs st_Loop_now, defBody st_Loop_now, defScope st_Loop_now, [], []⟩
abbrev st_Loop_depth : Stmt := clsStmt (top 165) 5
def d_Loop_depth : He.DefD := ⟨("Loop", some "depth"), "depth", "Loop.depth", defArgs st_Loop_depth, defBody st_Loop_depth, defScope st_Loop_depth, [], []⟩
abbrev st_Loop_is_busy : Stmt := clsStmt (top 165) 10
def d_Loop_is_busy : He.DefD := ⟨("Loop", some "is_busy"), "is_busy", "Loop.is_busy", defArgs st_Loop_is_busy, defBody st_Loop_is_busy, defScope st_Loop_is_busy, [], []⟩
abbrev st_Loop_len : Stmt := clsStmt (top 165) 14
def d_Loop_len : He.DefD := ⟨("Loop", some "__len__"), "__len__", "Loop.__len__", defArgs st_Loop_len, defBody st_Loop_len, defScope st_Loop_len, [], []⟩
abbrev st_NoScript_init : Stmt := clsStmt (top 2) 0
def d_NoScript_init : He.DefD := ⟨("NoScript", some "__init__"), "__init__", "NoScript.__init__", defArgs st_NoScript_init, defBody st_NoScript_init, defScope st_NoScript_init, [], []⟩
abbrev st_NoRank_init : Stmt := clsStmt (top 4) 0
def d_NoRank_init : He.DefD := ⟨("NoRank", some "__init__"), "__init__", "NoRank.__init__", defArgs st_NoRank_init, defBody st_NoRank_init, defScope st_NoRank_init, [], []⟩
def fn : List He.DefD := [d_is_between, d_is_word, d_is_worth, d_is_worth_within, d_is_names, d_is_rank, d_is_count, d_is_gap, d_is_due, d_is_script, d_room_behind, d_room_behind_parts, d_fits, d_first_state, d_passes_of, d_new_number, d_own_book, d_put_work, d_make_promise, d_settle, d_takers_behind, d_micro_of, d_put_taker, d_take, d_tell_unhandled, d_follow, d_end_of_row, d_gather_fate, d_do_say, d_do_echo, d_do_make, d_do_keep, d_do_pass, d_do_break, d_do_follow, d_do_then, d_take_turn, d_begin_without_works, d_begin_task, d_overdue_rank, d_begin_fresh, d_begin, d_end, d_go_on, d_settle_down, d_end_run, d_do_micros, d__law_pen, d__law_draw, d__law_taken, d_law, d_Setup_init, d_Book_init, d_State_init, d_Work_init, d_Loop_init, d_Loop_post, d_Loop_turn, d_Loop_turns, d_Loop_journal, d_Loop_promise, d_Loop_lines, d_Loop_passes, d_Loop_now, d_Loop_depth, d_Loop_is_busy, d_Loop_len, d_NoScript_init, d_NoRank_init]
def fa : List He.Fa := [.glo "is_between", .glo "is_word", .glo "is_worth", .glo "is_worth_within", .glo "is_names", .glo "is_rank", .glo "is_count", .glo "is_gap", .glo "is_due", .glo "is_script", .glo "room_behind", .glo "room_behind_parts", .glo "fits", .glo "first_state", .glo "passes_of", .glo "new_number", .glo "own_book", .glo "put_work", .glo "make_promise", .glo "settle", .glo "takers_behind", .glo "micro_of", .glo "put_taker", .glo "take", .glo "tell_unhandled", .glo "follow", .glo "end_of_row", .glo "gather_fate", .glo "do_say", .glo "do_echo", .glo "do_make", .glo "do_keep", .glo "do_pass", .glo "do_break", .glo "do_follow", .glo "do_then", .glo "take_turn", .glo "begin_without_works", .glo "begin_task", .glo "overdue_rank", .glo "begin_fresh", .glo "begin", .glo "end", .glo "go_on", .glo "settle_down", .glo "end_run", .glo "do_micros", .glo "_law_pen", .glo "_law_draw", .glo "_law_taken", .glo "law", .glo "Setup", .glo "Book", .glo "State", .glo "Work", .glo "Loop", .cls "Setup", .cls "Book", .cls "State", .cls "Work", .cls "Loop", .mkr "Setup", .mkr "Book", .mkr "State", .mkr "Work", .mkr "Loop", .meth "Loop" "post", .meth "Loop" "turn", .meth "Loop" "turns", .meth "Loop" "journal", .meth "Loop" "promise", .meth "Loop" "lines", .meth "Loop" "passes", .meth "Loop" "now", .meth "Loop" "depth", .meth "Loop" "is_busy", .meth "Loop" "__len__", .noat "Setup" "patience", .noat "Setup" "flood", .noat "Setup" "deep", .noat "Setup" "calls", .noat "Setup" "patient", .noat "Setup" "text", .noat "Book" "fates", .noat "Book" "named", .noat "Book" "takers", .noat "Book" "taken", .noat "Book" "untold", .noat "Book" "gathers", .noat "Book" "stories", .noat "Book" "waits", .noat "Book" "ahead", .noat "Book" "shared", .noat "Book" "text", .noat "State" "setup", .noat "State" "book", .noat "State" "picks", .noat "State" "since", .noat "State" "queues", .noat "State" "clock", .noat "State" "numbers", .noat "State" "events", .noat "State" "shown", .noat "State" "micros", .noat "State" "timers", .noat "State" "idles", .noat "State" "soonest", .noat "State" "opened", .noat "State" "done", .noat "State" "flooded", .noat "State" "asking", .noat "State" "busy", .noat "Work" "number", .noat "Work" "name", .noat "Work" "script", .noat "Work" "told", .noat "Work" "pledge", .noat "Work" "around", .noat "Work" "text", .noat "Loop" "state", .int "MOST_LETTERS" 8, .int "FARTHEST" 1000000000, .int "MOST_WORTHS" 20, .int "WORTH_LEVELS" 4, .int "LAST_RANK" 5, .int "MOST_COUNT" 1000, .int "MOST_NAMES" 8, .int "MOST_DEEDS" 200, .int "SCRIPT_LEVELS" 5, .int "RANKS" 3, .int "FLOOD" 100, .int "DEEP" 8, .int "MOST" 400, .free "isinstance", .free "len", .free "int", .free "bool", .free "tuple", .free "str", .free "range", .free "list", .free "dict", .free "max", .free "min", .free "sum", .free "any", .free "all", .free "enumerate", .free "zip", .free "KeyError", .free "IndexError", .free "LookupError", .free "ValueError", .glo "DEEDS", .glo "CHECKS", .glo "PLAIN", .glo "OPEN", .glo "SETTLED", .glo "NoScript", .glo "NoRank"]
def ts : List He.Tab := [(fun K => He.ga K "DEEDS", ["say", "echo", "spend", "post", "micro", "after", "every", "idle", "stop", "rerank", "make", "keep", "pass", "break", "follow", "then", "all", "any", "first", "each", "give", "fail", "guard", "if", "wait", "run", "story", "cancel", "yield", "call"]), (fun K => He.ga K "CHECKS", ["word", "rank", "count", "gap", "due", "worth", "names"]), (fun K => He.ga K "PLAIN", ["say", "echo", "spend", "post", "micro", "after", "every", "idle", "make", "keep", "pass", "break", "follow", "then", "all", "any", "first", "each", "fail", "story", "cancel"])]
abbrev R : PySem.W.OpenRow := PySem.W.OpenLaw.row PySem.Challenge.rw_rankloop_k12_whole_takers_in_their_order
abbrev qv : Program := PySem.W.view R.prog [170]
/-- the objects that the facts speak of, and what they name: fewer than all that the globals reach -/
def pickO : List DictEntry → List Str → List Addr
  | [], _ => []
  | e :: es, xs => match xs, e.key, e.val with
    | x :: r, .str y _, .ref a => (match y == x with
      | true => a :: pickO es r
      | false => pickO es xs)
    | [], _, _ => []
    | _, _, _ => pickO es xs
def pickA (g : Addr → Option Obj) (xs : List Str) : List Addr := match g mainGlobals with
  | some o => (match o.data with
    | .dict es _ => pickO es.toList xs
    | _ => [])
  | none => []
def refK (o : Obj) : List Addr := match o.data with
  | .func fd => He.refV fd.code ++ (He.refV fd.defaults ++ He.refV fd.kwdefaults)
  | .cls cd => [cd.ns]
  | .dict es _ => es.toList.flatMap fun e => He.refV e.val
  | _ => []
def nextA (g : Addr → Option Obj) (as : List Addr) : List Addr := as.flatMap fun a => match g a with
  | some o => refK o
  | none => []
def goA (g : Addr → Option Obj) : Nat → List Addr → List Addr
  | 0, as => as
  | n + 1, as => as ++ goA g n (nextA g as)
def selA (g : Addr → Option Obj) : List Addr := mainGlobals :: goA g 3 (pickA g ((["NoScript", "NoRank", "DEEDS", "is_word", "is_between", "is_worth", "is_worth_within", "is_names", "is_rank", "is_count", "is_gap", "is_due", "CHECKS", "is_script", "room_behind"] : List Str) ++ (["room_behind_parts", "fits", "OPEN", "SETTLED", "Setup", "Book", "State", "first_state", "passes_of", "new_number", "own_book", "Work", "put_work", "make_promise", "settle"] : List Str) ++ (["takers_behind", "micro_of", "put_taker", "take", "tell_unhandled", "follow", "end_of_row", "gather_fate", "do_say", "do_echo", "do_make", "do_keep", "do_pass", "do_break", "do_follow"] : List Str) ++ (["do_then", "PLAIN", "take_turn", "begin_without_works", "begin_task", "overdue_rank", "settle_down", "do_micros", "end_run", "begin", "begin_fresh", "go_on", "end", "Loop", "_law_pen"] : List Str) ++ (["_law_draw", "_law_taken", "law"] : List Str)))
/-- the table's value at a key: a tuple of these words -/
def tAdr (K : PySem.W.Frag) (a : Addr) (x : Str) : Addr := match PySem.W.nsIn K a x with
  | some (some (.ref b)) => b
  | _ => 0
def tupB2 (K : PySem.W.Frag) (a : Addr) (vs : List V) : Bool := match K.lookup a with
  | some ⟨.type c, _, .seq its _, _⟩ => decide (c = "tuple") && (decide (its.size ≤ sizeLine) && He.relAll vs its.toList)
  | _ => false
def tupAt (K : PySem.W.Frag) (a : Addr) (x : Str) (vs : List Str) : Bool := tupB2 K (tAdr K a x) (vs.map V.str) && He.valsB K a [(x, .adr fun K => tAdr K a x)]
def bNs : List String := ["KeyError", "IndexError", "LookupError", "ValueError", "RuntimeError"]
def xNs : List Str := ["NoText", "NoRow", "NoScript", "TooMany", "NoLoop", "NoPromise", "NoMark", "NoRank", "Busy", "Undone"]
abbrev xAd (K : PySem.W.Frag) (i : Nat) : Addr := He.ga K (xNs.getD i "Undone")
abbrev veTl : List Value := [.type "ValueError", .type "Exception", .type "BaseException", .type "object"]
abbrev ieTl : List Value := [.type "IndexError", .type "LookupError", .type "Exception", .type "BaseException", .type "object"]
abbrev keTl : List Value := [.type "KeyError", .type "LookupError", .type "Exception", .type "BaseException", .type "object"]
/-- all that is asked of the i-th class of exceptions, as one look -/
def chkX (K : PySem.W.Frag) (i : Nat) (bmB : List Value) (newId : String) (fld : Str) : Bool :=
  PySem.W.excInitIn K (xAd K i) bmB newId && (PySem.W.excOver K (xAd K i) bmB && (decide (PySem.W.findIn K (.ref (xAd K i)) "__setattr__" = some (some (.builtin "object.__setattr__"))) && (PySem.W.hasDictIn K (xAd K i) && (PySem.W.keepIn K (.ref (xAd K i)) &&
  (decide (PySem.W.findIn K (.ref (xAd K i)) "__getattribute__" = some (some (.builtin "BaseException.__getattribute__"))) && (decide (PySem.W.findIn K (.ref (xAd K i)) "__getattr__" = some none) && (decide (PySem.W.subIn K (.ref (xAd K i)) (.type "BaseException") = some true) &&
  (decide (PySem.W.findIn K (.ref (xAd K i)) "__class__" = some (some (.builtin "object.__class__"))) && (decide (PySem.W.specialIn K (.builtin "object.__class__") "__get__" = some (some (.builtin "getset_descriptor.__get__"))) &&
  (decide (PySem.W.takesIn K (.builtin "object.__class__") = some true) && (decide (PySem.W.mroIn K (xAd K i) (.type "object") = some true) &&
  (decide (PySem.W.findIn K (.ref (xAd K i)) fld = some none) &&
  (decide (PySem.W.typeIn K (.ref (xAd K i)) = some (.type "type")) && (decide (PySem.W.findIn K (.ref (xAd K i)) "__init__" = some (some (.ref (He.ma K (xAd K i) "__init__")))) && (decide (PySem.W.typeIn K (.ref (He.ma K (xAd K i) "__init__")) = some (.type "function")))))))))))))))))
def chk2 (K : PySem.W.Frag) : Bool := chkX K 2 veTl "ValueError.__new__" "thing"
def chk7 (K : PySem.W.Frag) : Bool := chkX K 7 ieTl "IndexError.__new__" "rank"
/-- unlike classes -/
def chkN (K : PySem.W.Frag) : Bool := !(He.ga K "State" == He.ga K "Work") && (!(He.ga K "State" == He.ga K "Setup") && (!(He.ga K "Book" == He.ga K "Work") && (!(He.ga K "Book" == He.ga K "Setup") && (!(He.ga K "Loop" == He.ga K "Work") && !(He.ga K "Loop" == He.ga K "Setup")))))
def formT : List (Str × List Str) :=
  [("say", ["word"]), ("echo", []), ("spend", ["count"]), ("post", ["rank", "word", "script"]), ("micro", ["script"]), ("after", ["count", "rank", "word", "script"]), ("every", ["gap", "rank", "word", "script"]), ("idle", ["due", "word", "script"]), ("stop", ["word"]), ("rerank", ["word", "rank"]),
   ("make", ["word"]), ("keep", ["word", "worth"]), ("pass", ["word"]), ("break", ["word", "word"]), ("follow", ["word", "word"]), ("then", ["word", "word", "perhaps", "perhaps"]), ("all", ["word", "names"]), ("any", ["word", "names"]), ("first", ["word", "names"]), ("each", ["word", "names"]), ("give", ["worth"]),
   ("fail", ["word"]), ("guard", ["script", "perhaps", "script"]), ("if", ["word", "script", "script"]), ("wait", ["word"]), ("run", ["word"]), ("story", ["word", "script"]), ("cancel", ["word"]), ("yield", ["rank"]), ("call", ["word"])]
def chkD (K : PySem.W.Frag) : Bool := formT.all fun p => tupAt K (He.ga K "DEEDS") p.1 p.2
def kvC : List (Str × He.Dv) := [("word", .glo "is_word"), ("count", .glo "is_count"), ("rank", .glo "is_rank"), ("gap", .glo "is_gap"), ("due", .glo "is_due"), ("worth", .glo "is_worth"), ("names", .glo "is_names")]
def chkC (K : PySem.W.Frag) : Bool := He.valsB K (He.ga K "CHECKS") kvC
def kvP : List (Str × He.Dv) := [("say", .glo "do_say"), ("echo", .glo "do_echo"), ("then", .glo "do_then"), ("make", .glo "do_make"), ("keep", .glo "do_keep"), ("break", .glo "do_break"), ("follow", .glo "do_follow")]
def chkP (K : PySem.W.Frag) : Bool := He.valsB K (He.ga K "PLAIN") kvP
-- chk2 chk7 chkN chkD chkC chkP
def ex (K : PySem.W.Frag) : Bool := chk2 K && chk7 K && chkN K && chkD K && chkC K && chkP K && decide (PySem.W.kitOne K (.type "NoneType") (.ref (He.ga K "State")) = some false) && tupB2 K (He.ga K "OPEN") [.str "open"] && tupB2 K (He.ga K "SETTLED") [.str "kept", .str "broken"]
abbrev AlY : Type := He.AlT × Bool
def obK (K : PySem.W.Frag) : AlY := (He.obsT fa fn ts K, ex K)
def obG (g : Addr → Option Obj) : AlY := obK (He.frG g (selA g))
def hk : PySem.W.Hook where
  α := AlY
  obs := fun s => obG s.heap.get?
  val := fun w => (He.valT fn ts w, true)
  says := fun w h => ∃ M : PySem.W.Frag, M.In h ∧ obK M = (He.valT fn ts w, true)
  of := fun _ _ e => ⟨_, He.frG_in, e⟩
  keeps := fun _ _ _ ⟨M, hM, z⟩ k => ⟨M, hM.keeps k, z⟩
def ob (s : PySem.W.SharedT) : AlY := obG (HandSHeadRun.getT s)
theorem ob_eq (s : PySem.W.SharedT) : ob s = hk.obs s.abs := by
  have e : HandSHeadRun.getT s = s.abs.heap.get? := funext (HandSHeadRun.getT_eq s)
  unfold ob
  rw [e]
  rfl
def names0 : List PySem.Str := [("_wall" : PySem.Str), ("NoScript" : PySem.Str), ("NoPromise" : PySem.Str), ("NoRank" : PySem.Str), ("Busy" : PySem.Str), ("MOST_LETTERS" : PySem.Str), ("FARTHEST" : PySem.Str), ("MOST_WORTHS" : PySem.Str), ("WORTH_LEVELS" : PySem.Str), ("LAST_RANK" : PySem.Str), ("MOST_COUNT" : PySem.Str), ("MOST_NAMES" : PySem.Str), ("MOST_DEEDS" : PySem.Str), ("SCRIPT_LEVELS" : PySem.Str), ("DEEDS" : PySem.Str), ("is_word" : PySem.Str), ("is_between" : PySem.Str), ("is_worth" : PySem.Str), ("is_worth_within" : PySem.Str), ("is_names" : PySem.Str), ("is_rank" : PySem.Str), ("is_count" : PySem.Str), ("is_gap" : PySem.Str), ("is_due" : PySem.Str), ("CHECKS" : PySem.Str), ("is_script" : PySem.Str), ("room_behind" : PySem.Str), ("room_behind_parts" : PySem.Str), ("fits" : PySem.Str), ("show_worth" : PySem.Str)]
def names1 : List PySem.Str := [("show_parts" : PySem.Str), ("show_event" : PySem.Str), ("bracketed" : PySem.Str), ("OPEN" : PySem.Str), ("SETTLED" : PySem.Str), ("Setup" : PySem.Str), ("Book" : PySem.Str), ("State" : PySem.Str), ("first_state" : PySem.Str), ("passes_of" : PySem.Str), ("new_number" : PySem.Str), ("is_settled" : PySem.Str), ("copied" : PySem.Str), ("own_book" : PySem.Str), ("copied_book" : PySem.Str), ("UNSHUT" : PySem.Str), ("Work" : PySem.Str), ("Doing" : PySem.Str), ("rest_of" : PySem.Str), ("do_ahead" : PySem.Str), ("go_to" : PySem.Str), ("guard" : PySem.Str), ("take_frame" : PySem.Str), ("leave_frame" : PySem.Str), ("shut" : PySem.Str), ("brought_to_guard" : PySem.Str), ("give" : PySem.Str), ("text_of" : PySem.Str), ("event_rows" : PySem.Str), ("standing_text" : PySem.Str)]
def names2 : List PySem.Str := [("setup_text" : PySem.Str), ("are_alike" : PySem.Str), ("things_in" : PySem.Str), ("truth" : PySem.Str), ("work_text" : PySem.Str), ("plan_text" : PySem.Str), ("show_mixed" : PySem.Str), ("book_text" : PySem.Str), ("promise_row" : PySem.Str), ("Plan" : PySem.Str), ("put_work" : PySem.Str), ("is_meant" : PySem.Str), ("take_named" : PySem.Str), ("stop" : PySem.Str), ("rerank" : PySem.Str), ("put_timer" : PySem.Str), ("put_idle" : PySem.Str), ("take_idle" : PySem.Str), ("note_soonest" : PySem.Str), ("put_due" : PySem.Str), ("planned_work" : PySem.Str), ("make_timers" : PySem.Str), ("CANCELLED" : PySem.Str), ("make_promise" : PySem.Str), ("settle" : PySem.Str), ("takers_behind" : PySem.Str), ("micro_of" : PySem.Str), ("put_taker" : PySem.Str), ("take" : PySem.Str), ("tell_unhandled" : PySem.Str)]
def names3 : List PySem.Str := [("wait_for" : PySem.Str), ("follow" : PySem.Str), ("end_of_row" : PySem.Str), ("cancel" : PySem.Str), ("place_of_rest" : PySem.Str), ("take_cancel" : PySem.Str), ("spend_story" : PySem.Str), ("gather_all" : PySem.Str), ("gather_fate" : PySem.Str), ("outcome_of" : PySem.Str), ("STAYS" : PySem.Str), ("MOVES" : PySem.Str), ("put_micro" : PySem.Str), ("do_say" : PySem.Str), ("do_echo" : PySem.Str), ("do_spend" : PySem.Str), ("do_post" : PySem.Str), ("do_micro" : PySem.Str), ("do_after" : PySem.Str), ("do_every" : PySem.Str), ("do_idle" : PySem.Str), ("do_stop" : PySem.Str), ("do_rerank" : PySem.Str), ("do_make" : PySem.Str), ("do_keep" : PySem.Str), ("do_pass" : PySem.Str), ("do_break" : PySem.Str), ("do_follow" : PySem.Str), ("do_then" : PySem.Str), ("do_gather" : PySem.Str)]
def names4 : List PySem.Str := [("do_give" : PySem.Str), ("do_fail" : PySem.Str), ("do_guard" : PySem.Str), ("do_if" : PySem.Str), ("do_wait" : PySem.Str), ("do_run" : PySem.Str), ("do_story" : PySem.Str), ("do_cancel" : PySem.Str), ("do_yield" : PySem.Str), ("do_call" : PySem.Str), ("asked" : PySem.Str), ("PLAIN" : PySem.Str), ("OTHERS" : PySem.Str), ("do_deeds" : PySem.Str), ("take_turn" : PySem.Str), ("finish_broken_off" : PySem.Str), ("begin_without_works" : PySem.Str), ("leap" : PySem.Str), ("begin_task" : PySem.Str), ("overdue_rank" : PySem.Str), ("begin_idle" : PySem.Str), ("tell_stuck" : PySem.Str), ("settle_down" : PySem.Str), ("do_micros" : PySem.Str), ("end_run" : PySem.Str), ("begin" : PySem.Str), ("begin_fresh" : PySem.Str), ("go_on_by" : PySem.Str), ("go_on" : PySem.Str), ("end" : PySem.Str)]
def names5 : List PySem.Str := [("RANKS" : PySem.Str), ("FLOOD" : PySem.Str), ("DEEP" : PySem.Str), ("MOST" : PySem.Str), ("Loop" : PySem.Str), ("_law_pen" : PySem.Str), ("_law_draw" : PySem.Str), ("_law_taken" : PySem.Str)]
def names : List PySem.Str := names0 ++ names1 ++ names2 ++ names3 ++ names4 ++ names5
end My

set_option Elab.async false
set_option linter.all false
set_option maxRecDepth 100000
set_option maxHeartbeats 0
namespace My
open PySem PySem.Spec PyProof.Rows L2
theorem three {α β γ δ : Type} {o : Option α} {f : α → β} {g : α → γ} {h : α → δ} {b : β} {c : γ} {d : δ} (h1 : o.map f = some b) (h2 : o.map g = some c) (h3 : o.map h = some d) : o.map (fun x => (f x, g x, h x)) = some (b, c, d) := by
  cases o with
  | none => cases h1
  | some a =>
    have e1 : f a = b := Option.some.inj h1
    have e2 : g a = c := Option.some.inj h2
    have e3 : h a = d := Option.some.inj h3
    show some (f a, g a, h a) = _
    rw [e1, e2, e3]
section
open PySem.W PySem.Calls HandSHeadRun
theorem join {r : OpenRow} {q : Program} {H : Hook} {ob : SharedT → H.α} {M : Nat} {loose : List PySem.Str} {w : World} (h1 : ∀ os : OsState, (endF (stepQ (denQ tabQ) r.prog w) M r.prog w os).map (fun s => looksF r.prog (boot_heap w.params) s.abs) = some true)
    (h2 : ∀ os : OsState, (endF (stepQ (denQ tabQ) r.prog w) M r.prog w os).map (fun s => seenQ q loose (importedModules r.prog.main.body) (fun s => xlAt q [] s && recOk r.toRowW.records s) s.abs) = some (openGood q loose))
    (h3 : ∀ os : OsState, (endF (stepQ (denQ tabQ) r.prog w) M r.prog w os).map ob = some (H.val w)) : RunEq r q H ob M loose w := fun os => three (h1 os) (h2 os) (h3 os)
theorem all_td {α : Type} {l : List α} {n : Nat} {f : α → Bool} (h1 : (l.take n).all f = true) (h2 : (l.drop n).all f = true) : l.all f = true := by
  have e : l.all f = ((l.take n).all f && (l.drop n).all f) := by rw [← List.all_append, List.take_append_drop]
  rw [e, h1, h2]
  rfl
theorem lookAfalse (w : World) (os : OsState) : (endF (stepQ (denQ tabQ) R.prog (w.withFollow "special-get-raises" false)) 12000 R.prog (w.withFollow "special-get-raises" false) os).map (fun s => staticsOk (importedModules R.prog.main.body) (boot_heap (w.withFollow "special-get-raises" false).params) s.abs.heap && (s.abs.heap.isNs mainGlobals && ((s.abs.heap.nsKeys mainGlobals).take 110).all (fun k => startupNames.contains k || R.prog.boundNames.contains k))) = some true := by
  kernel_rfl
theorem lookBfalse (w : World) (os : OsState) : (endF (stepQ (denQ tabQ) R.prog (w.withFollow "special-get-raises" false)) 12000 R.prog (w.withFollow "special-get-raises" false) os).map (fun s => ((s.abs.heap.nsKeys mainGlobals).drop 110).all (fun k => startupNames.contains k || R.prog.boundNames.contains k) && (gensDone s.abs && laidKept (boot_heap (w.withFollow "special-get-raises" false).params) s.abs.heap)) = some true := by
  kernel_rfl
theorem lookfalse (w : World) (os : OsState) : (endF (stepQ (denQ tabQ) R.prog (w.withFollow "special-get-raises" false)) 12000 R.prog (w.withFollow "special-get-raises" false) os).map (fun s => looksF R.prog (boot_heap (w.withFollow "special-get-raises" false).params) s.abs) = some true := by
  have h1 := lookAfalse w os
  have h2 := lookBfalse w os
  revert h1 h2
  generalize (endF (stepQ (denQ tabQ) R.prog (w.withFollow "special-get-raises" false)) 12000 R.prog (w.withFollow "special-get-raises" false) os) = o
  intro h1 h2
  cases o with
  | none => cases h1
  | some x =>
    have e1 := Option.some.inj h1
    have e2 := Option.some.inj h2
    have f1 := Bool.and_eq_true_iff.mp e1
    have f2 := Bool.and_eq_true_iff.mp f1.2
    have g1 := Bool.and_eq_true_iff.mp e2
    have g2 := Bool.and_eq_true_iff.mp g1.2
    have ha := all_td f2.2 g1.1
    exact congrArg some (Bool.and_eq_true_iff.mpr ⟨Bool.and_eq_true_iff.mpr ⟨Bool.and_eq_true_iff.mpr ⟨f1.1, Bool.and_eq_true_iff.mpr ⟨f2.1, ha⟩⟩, g2.1⟩, g2.2⟩)
theorem seenAfalse (w : World) (os : OsState) : (endF (stepQ (denQ tabQ) R.prog (w.withFollow "special-get-raises" false)) 12000 R.prog (w.withFollow "special-get-raises" false) os).map (fun s => ((seenQ qv names (importedModules R.prog.main.body) (fun s => PySem.W.xlAt qv [] s && PySem.W.recOk R.toRowW.records s) s.abs).1, (seenQ qv names (importedModules R.prog.main.body) (fun s => PySem.W.xlAt qv [] s && PySem.W.recOk R.toRowW.records s) s.abs).2.1, (seenQ qv names (importedModules R.prog.main.body) (fun s => PySem.W.xlAt qv [] s && PySem.W.recOk R.toRowW.records s) s.abs).2.2.1)) = some ((PySem.W.openGood qv names).1, (PySem.W.openGood qv names).2.1, (PySem.W.openGood qv names).2.2.1) := by
  kernel_rfl
theorem seenBfalse (w : World) (os : OsState) : (endF (stepQ (denQ tabQ) R.prog (w.withFollow "special-get-raises" false)) 12000 R.prog (w.withFollow "special-get-raises" false) os).map (fun s => (seenQ qv names (importedModules R.prog.main.body) (fun s => PySem.W.xlAt qv [] s && PySem.W.recOk R.toRowW.records s) s.abs).2.2.2) = some (PySem.W.openGood qv names).2.2.2 := by
  kernel_rfl
theorem seenfalse (w : World) (os : OsState) : (endF (stepQ (denQ tabQ) R.prog (w.withFollow "special-get-raises" false)) 12000 R.prog (w.withFollow "special-get-raises" false) os).map (fun s => seenQ qv names (importedModules R.prog.main.body) (fun s => PySem.W.xlAt qv [] s && PySem.W.recOk R.toRowW.records s) s.abs) = some (PySem.W.openGood qv names) := by
  have h1 := seenAfalse w os
  have h2 := seenBfalse w os
  revert h1 h2
  generalize (endF (stepQ (denQ tabQ) R.prog (w.withFollow "special-get-raises" false)) 12000 R.prog (w.withFollow "special-get-raises" false) os) = o
  intro h1 h2
  cases o with
  | none => cases h1
  | some x =>
    have e1 := Option.some.inj h1
    have e2 := Option.some.inj h2
    have q := Prod.mk.inj e1
    have r := Prod.mk.inj q.2
    exact congrArg some (Prod.ext q.1 (Prod.ext r.1 (Prod.ext r.2 e2)))
theorem obsAfalse (w : World) (os : OsState) : (endF (stepQ (denQ tabQ) R.prog (w.withFollow "special-get-raises" false)) 12000 R.prog (w.withFollow "special-get-raises" false) os).map (fun s => (ob s).1.1.1) = some true := by
  kernel_rfl
theorem obsBfalse (w : World) (os : OsState) : (endF (stepQ (denQ tabQ) R.prog (w.withFollow "special-get-raises" false)) 12000 R.prog (w.withFollow "special-get-raises" false) os).map (fun s => ((ob s).1.1.2, (ob s).1.2, (ob s).2)) = some (fn.map He.DefD.val, (hk.val (w.withFollow "special-get-raises" false)).1.2, true) := by
  kernel_rfl
theorem obsfalse (w : World) (os : OsState) : (endF (stepQ (denQ tabQ) R.prog (w.withFollow "special-get-raises" false)) 12000 R.prog (w.withFollow "special-get-raises" false) os).map ob = some (hk.val (w.withFollow "special-get-raises" false)) := by
  have h1 := obsAfalse w os
  have h2 := obsBfalse w os
  revert h1 h2
  generalize (endF (stepQ (denQ tabQ) R.prog (w.withFollow "special-get-raises" false)) 12000 R.prog (w.withFollow "special-get-raises" false) os) = o
  intro h1 h2
  cases o with
  | none => cases h1
  | some x =>
    have e1 := Option.some.inj h1
    have e2 := Prod.mk.inj (Option.some.inj h2)
    have e3 := Prod.mk.inj e2.2
    exact congrArg some (Prod.ext (Prod.ext (Prod.ext e1 e2.1) e3.1) e3.2)
theorem runfalse (w : World) : RunEq R qv hk ob 12000 names (w.withFollow "special-get-raises" false) := join (r := R) (q := qv) (H := hk) (ob := ob) (M := 12000) (loose := names) (w := (w.withFollow "special-get-raises" false)) (lookfalse w) (seenfalse w) (obsfalse w)
theorem lookAtrue (w : World) (os : OsState) : (endF (stepQ (denQ tabQ) R.prog (w.withFollow "special-get-raises" true)) 12000 R.prog (w.withFollow "special-get-raises" true) os).map (fun s => staticsOk (importedModules R.prog.main.body) (boot_heap (w.withFollow "special-get-raises" true).params) s.abs.heap && (s.abs.heap.isNs mainGlobals && ((s.abs.heap.nsKeys mainGlobals).take 110).all (fun k => startupNames.contains k || R.prog.boundNames.contains k))) = some true := by
  kernel_rfl
theorem lookBtrue (w : World) (os : OsState) : (endF (stepQ (denQ tabQ) R.prog (w.withFollow "special-get-raises" true)) 12000 R.prog (w.withFollow "special-get-raises" true) os).map (fun s => ((s.abs.heap.nsKeys mainGlobals).drop 110).all (fun k => startupNames.contains k || R.prog.boundNames.contains k) && (gensDone s.abs && laidKept (boot_heap (w.withFollow "special-get-raises" true).params) s.abs.heap)) = some true := by
  kernel_rfl
theorem looktrue (w : World) (os : OsState) : (endF (stepQ (denQ tabQ) R.prog (w.withFollow "special-get-raises" true)) 12000 R.prog (w.withFollow "special-get-raises" true) os).map (fun s => looksF R.prog (boot_heap (w.withFollow "special-get-raises" true).params) s.abs) = some true := by
  have h1 := lookAtrue w os
  have h2 := lookBtrue w os
  revert h1 h2
  generalize (endF (stepQ (denQ tabQ) R.prog (w.withFollow "special-get-raises" true)) 12000 R.prog (w.withFollow "special-get-raises" true) os) = o
  intro h1 h2
  cases o with
  | none => cases h1
  | some x =>
    have e1 := Option.some.inj h1
    have e2 := Option.some.inj h2
    have f1 := Bool.and_eq_true_iff.mp e1
    have f2 := Bool.and_eq_true_iff.mp f1.2
    have g1 := Bool.and_eq_true_iff.mp e2
    have g2 := Bool.and_eq_true_iff.mp g1.2
    have ha := all_td f2.2 g1.1
    exact congrArg some (Bool.and_eq_true_iff.mpr ⟨Bool.and_eq_true_iff.mpr ⟨Bool.and_eq_true_iff.mpr ⟨f1.1, Bool.and_eq_true_iff.mpr ⟨f2.1, ha⟩⟩, g2.1⟩, g2.2⟩)
theorem seenAtrue (w : World) (os : OsState) : (endF (stepQ (denQ tabQ) R.prog (w.withFollow "special-get-raises" true)) 12000 R.prog (w.withFollow "special-get-raises" true) os).map (fun s => ((seenQ qv names (importedModules R.prog.main.body) (fun s => PySem.W.xlAt qv [] s && PySem.W.recOk R.toRowW.records s) s.abs).1, (seenQ qv names (importedModules R.prog.main.body) (fun s => PySem.W.xlAt qv [] s && PySem.W.recOk R.toRowW.records s) s.abs).2.1, (seenQ qv names (importedModules R.prog.main.body) (fun s => PySem.W.xlAt qv [] s && PySem.W.recOk R.toRowW.records s) s.abs).2.2.1)) = some ((PySem.W.openGood qv names).1, (PySem.W.openGood qv names).2.1, (PySem.W.openGood qv names).2.2.1) := by
  kernel_rfl
theorem seenBtrue (w : World) (os : OsState) : (endF (stepQ (denQ tabQ) R.prog (w.withFollow "special-get-raises" true)) 12000 R.prog (w.withFollow "special-get-raises" true) os).map (fun s => (seenQ qv names (importedModules R.prog.main.body) (fun s => PySem.W.xlAt qv [] s && PySem.W.recOk R.toRowW.records s) s.abs).2.2.2) = some (PySem.W.openGood qv names).2.2.2 := by
  kernel_rfl
theorem seentrue (w : World) (os : OsState) : (endF (stepQ (denQ tabQ) R.prog (w.withFollow "special-get-raises" true)) 12000 R.prog (w.withFollow "special-get-raises" true) os).map (fun s => seenQ qv names (importedModules R.prog.main.body) (fun s => PySem.W.xlAt qv [] s && PySem.W.recOk R.toRowW.records s) s.abs) = some (PySem.W.openGood qv names) := by
  have h1 := seenAtrue w os
  have h2 := seenBtrue w os
  revert h1 h2
  generalize (endF (stepQ (denQ tabQ) R.prog (w.withFollow "special-get-raises" true)) 12000 R.prog (w.withFollow "special-get-raises" true) os) = o
  intro h1 h2
  cases o with
  | none => cases h1
  | some x =>
    have e1 := Option.some.inj h1
    have e2 := Option.some.inj h2
    have q := Prod.mk.inj e1
    have r := Prod.mk.inj q.2
    exact congrArg some (Prod.ext q.1 (Prod.ext r.1 (Prod.ext r.2 e2)))
theorem obsAtrue (w : World) (os : OsState) : (endF (stepQ (denQ tabQ) R.prog (w.withFollow "special-get-raises" true)) 12000 R.prog (w.withFollow "special-get-raises" true) os).map (fun s => (ob s).1.1.1) = some true := by
  kernel_rfl
theorem obsBtrue (w : World) (os : OsState) : (endF (stepQ (denQ tabQ) R.prog (w.withFollow "special-get-raises" true)) 12000 R.prog (w.withFollow "special-get-raises" true) os).map (fun s => ((ob s).1.1.2, (ob s).1.2, (ob s).2)) = some (fn.map He.DefD.val, (hk.val (w.withFollow "special-get-raises" true)).1.2, true) := by
  kernel_rfl
theorem obstrue (w : World) (os : OsState) : (endF (stepQ (denQ tabQ) R.prog (w.withFollow "special-get-raises" true)) 12000 R.prog (w.withFollow "special-get-raises" true) os).map ob = some (hk.val (w.withFollow "special-get-raises" true)) := by
  have h1 := obsAtrue w os
  have h2 := obsBtrue w os
  revert h1 h2
  generalize (endF (stepQ (denQ tabQ) R.prog (w.withFollow "special-get-raises" true)) 12000 R.prog (w.withFollow "special-get-raises" true) os) = o
  intro h1 h2
  cases o with
  | none => cases h1
  | some x =>
    have e1 := Option.some.inj h1
    have e2 := Prod.mk.inj (Option.some.inj h2)
    have e3 := Prod.mk.inj e2.2
    exact congrArg some (Prod.ext (Prod.ext (Prod.ext e1 e2.1) e3.1) e3.2)
theorem runtrue (w : World) : RunEq R qv hk ob 12000 names (w.withFollow "special-get-raises" true) := join (r := R) (q := qv) (H := hk) (ob := ob) (M := 12000) (loose := names) (w := (w.withFollow "special-get-raises" true)) (looktrue w) (seentrue w) (obstrue w)
theorem tabs : R.prog.tablesWhole = true := by decide +kernel
theorem early (h : (PySem.W.OpenLaw.row PySem.Challenge.rw_rankloop_k12_whole_takers_in_their_order).wellSaid = true → (PySem.W.OpenLaw.row PySem.Challenge.rw_rankloop_k12_whole_takers_in_their_order).Holds) : PySem.Challenge.rw_rankloop_k12_whole_takers_in_their_order.Holds := by
  w_on; o_law
  exact h (by assumption)
theorem run (w : World) : RunEq R qv hk ob 12000 names w := PySem.W.byRow2 "special-get-raises" runfalse runtrue w
end
end My

set_option Elab.async false
set_option linter.all false
set_option maxRecDepth 100000
set_option maxHeartbeats 4000000
namespace My
open PySem L2 PyProof.Rows
theorem iteN {c A B : Prop} [Decidable c] (hc : ¬ c) (h : B) : if decide c = true then A else B := by
  rw [decide_eq_false hc]
  exact iteF h
theorem iteY {c A B : Prop} [Decidable c] (hc : c) (h : A) : if decide c = true then A else B := by
  rw [decide_eq_true hc]
  exact iteT h
theorem iteB0 {b : Bool} {A B : Prop} (hb : b = false) (h : B) : if b = true then A else B := by
  rw [hb]
  exact iteF h
theorem iteB1 {b : Bool} {A B : Prop} (hb : b = true) (h : A) : if b = true then A else B := by
  rw [hb]
  exact iteT h
theorem Same.new {H H' : Hp} {p : Addr} {o : HO} (s : Same H H') (h : H' p = none) : Same H (upd H' p o) := fun b u e => by
  have e' := s b u e
  rw [upd_ne (ne_of_none e' h)]
  exact e'
theorem asg_of {te : TE} {g : TG} {b : TS} {D : Ends} {σ : L2.St} {H : Hp} (h : te σ H fun x H1 => g x σ H1 fun σ2 H2 => b D σ2 H2) : tSeq (tAsg te g) b D σ H := h
theorem lst_of {t : TA} {σ : L2.St} {H : Hp} {Q : VK} (h : t σ H fun xs H1 => xs.length ≤ sizeLine ∧ ∀ p, H1 p = none → Q (.ref p) (upd H1 p (.lst xs))) : tLst t σ H Q := h
theorem cons_of {ta : TE} {tr : TA} {σ : L2.St} {H : Hp} {Q : List V → Hp → Prop} (h : ta σ H fun x H1 => tr σ H1 fun xs H2 => Q (x :: xs) H2) : tCons ta tr σ H Q := h
theorem nx_of {a b : TS} {D : Ends} {r : VK} {k c : L2.St → Hp → Prop} {σ : L2.St} {H : Hp} (h : tSeq a b D σ H) : Ends.nx { nx := tSeq a b D, rt := r, bk := k, ct := c } σ H := h
section
variable {X : Cx}
/-! ### a tuple against (), a list against [] -/
def rEqT0 (K : PySem.W.Frag) : R2 := fun x y H Q => ∃ a b xs, x = .ref a ∧ y = .ref b ∧ SqT K H a xs ∧ SqT K H b [] ∧ Q (.bl xs.isEmpty) H
theorem op_eqT0 (hu : X.A.units + 64 < cLine) : OpR X (compareOp .Eq) (rEqT0 X.K) := by
  intro pins s σ H x y v u Q I rx ry h
  obtain ⟨a, b, xs, rfl, rfl, ha, hb, q⟩ := h
  cases (show v = Value.ref a from rx)
  cases (show u = Value.ref b from ry)
  obtain ⟨its, r1, p1, _⟩ := I.tuple ha
  obtain ⟨its2, r2, p2, _⟩ := I.tuple hb
  cases r2
  refine PySem.W.eq_tuplesT (n := 0) (e := fun _ => true) p1 p2 (fun j h1 h2 => absurd h2 (by simp)) (by omega) ⟨.bl xs.isEmpty, H, I, ?_, q⟩
  have hl := r1.length
  show Value.bool _ = Value.bool _
  cases xs with
  | nil =>
    cases r1
    rfl
  | cons x xs =>
    cases its with
    | nil => cases r1
    | cons i is => simp
def rEqL0 (K : PySem.W.Frag) : R2 := fun x y H Q => ∃ a b xs, x = .ref a ∧ y = .ref b ∧ SqL K H a xs ∧ SqL K H b [] ∧ Q (.bl xs.isEmpty) H
theorem op_eqL0 (hu : X.A.units + 64 < cLine) : OpR X (compareOp .Eq) (rEqL0 X.K) := by
  intro pins s σ H x y v u Q I rx ry h
  obtain ⟨a, b, xs, rfl, rfl, ha, hb, q⟩ := h
  cases (show v = Value.ref a from rx)
  cases (show u = Value.ref b from ry)
  obtain ⟨its, r1, p1, _⟩ := I.list ha
  obtain ⟨its2, r2, p2, _⟩ := I.list hb
  cases r2
  cases xs with
  | nil =>
    cases r1
    exact PySem.W.eq_listsT (n := 0) (e := fun _ => true) p1.isList p2.isList rfl (fun j h1 h2 => absurd h2 (by simp)) (by omega) ⟨.bl true, H, I, rfl, q⟩
  | cons x xs =>
    cases its with
    | nil => cases r1
    | cons i is => exact SeqAt.eq_list_lengthsAt p1.isList p2.isList (by simp) (by omega) ⟨.bl false, H, I, rfl, q⟩
/-! ### t * 1 -/
theorem tuple_mul1 (l : Addr) (items : Array Value) (n : Nat) (dd : Option Addr) (sl : Array (Option Value)) (u : Tok) :
    Meets (Builtin.«tuple.__mul__» ⟨[.ref l, .int 1 u], []⟩) (fun _ R s => s.heap.get? l = some { cls := .type "tuple", dict := dd, data := .seq items n, slots := sl } ∧ R (.ok (.ret (Value.ref l))) s) :=
  .of_wp fun prog w A R s h => by
    obtain ⟨hp, g, d, tk, os⟩ := s
    obtain ⟨hl, h⟩ := h
    have f1 := AutoSeq1.idx_int
    wp_walk using wpAny_loadPart' hl
    exact ⟨_, rfl, h⟩
def rRepA (K : PySem.W.Frag) : R2 := fun x y H Q => ∃ l k xs, x = .ref l ∧ y = .int k ∧ SqT K H l xs ∧ xs ≠ [] ∧ 1 ≤ k ∧ k ≤ 1000 ∧ xs.length ≤ 1000 ∧
  (k = 1 → Q (.ref l) H) ∧ (2 ≤ k → ∀ p, H p = none → Q (.ref p) (upd H p (.tup (List.replicate k.toNat xs).flatten)))
theorem op_repA : OpR X (binaryOp .Mult) (rRepA X.K) := by
  intro pins s σ H x y v u Q I rx ry h
  obtain ⟨l, k, xs, rfl, rfl, hT, hne, h1, h2, hz, q1, q2⟩ := h
  by_cases hk : k = 1
  · subst hk
    cases rx
    obtain ⟨t, rfl⟩ := ry
    obtain ⟨its, r, ⟨⟨cls, dd, data, sl⟩, ho, hc, n, hd⟩, hs⟩ := I.tuple hT
    simp only at hc hd
    subst hc hd
    exact wpAny_binaryOp_repeat_ref (T := "tuple") (U := "int") (by decide) ⟨_, ho, rfl⟩ (fun s' => typeIs_int s' 1 t) noFill_tuple_mul F.fills_int_mul F.slot_int_rmul repeat_tuple F.slot_int_index.lookup
      (call_meets F.slot_int_rmul (typeIs_int s 1 t) F.entry_int_rmul (F.args_int_rmul_2 _ _) (int_rmul_tuple 1 t l its.toArray n dd sl)
        ⟨ho, rfl, ⟨_, ho, rfl⟩, call_meets F.slot_tuple_mul ⟨_, ho, rfl⟩ F.entry_tuple_mul (F.args_tuple_mul_2 _ _) (tuple_mul1 l its.toArray n dd sl t) ⟨ho, .ref l, H, I, rfl, q1 rfl⟩⟩)
  · exact op_repT pins s σ H _ _ v u Q I rx ry ⟨l, k, xs, rfl, rfl, hT, hne, by omega, h2, hz, q2 (by omega)⟩
/-! ### t[::-1] -/
theorem applied_rev {prog : Program} {w : World} {A : Around} {E : Value → Shared → Prop} {s : Shared} {sl : Addr} {vl vu vs : Value} {n : Nat} {Q : Int × Int × Nat → Shared → Prop} (hs : s.heap.IsSliceOf sl vl vu vs) (pl : IsPart vl none) (pu : IsPart vu none) (ps : IsPart vs (some (-1)))
    (h : Q ((n : Int) - 1, -1, n) s) : wpAny (model prog w) A (Builtin.Slice.sliceApplied (.ref sl) (pure (n : Int))) Q E s := by
  obtain ⟨os, hos, hcs, hds⟩ := id hs
  unfold Builtin.Slice.sliceApplied Builtin.Slice.sliceFields
  refine wpAny_bind (wpAny_bind (wpAny_field hos hds (x := vl) rfl (wpAny_bind (wpAny_field hos hds (x := vu) rfl (wpAny_bind (wpAny_field hos hds (x := vs) rfl (wpAny_pure ?_)))))))
  refine wpAny_bind (HT.slicePart_ ps ?_)
  show wpAny _ _ (if ((-1 : Int) == 0) = true then _ else _) _ _ s
  rw [if_neg (by decide)]
  refine wpAny_bind (HT.slicePart_ pl (wpAny_bind (HT.slicePart_ pu (wpAny_bind (wpAny_pure ?_)))))
  show wpAny _ _ (pure ((n : Int) - 1, (-1 : Int), Builtin.Slice.slicePlaces ((n : Int) - 1) (-1) (-1))) _ _ s
  have e : Builtin.Slice.slicePlaces ((n : Int) - 1) (-1) (-1) = n := by
    unfold Builtin.Slice.slicePlaces
    rw [if_neg (by decide)]
    by_cases hn : (n : Int) - 1 > -1
    · rw [if_pos hn, show (- -1 : Int) = 1 by decide, Int.ediv_one]; omega
    · rw [if_neg hn]; omega
  rw [e]
  exact wpAny_pure h
theorem pick_rev (xs : Array Value) : ((List.range xs.size).filterMap fun (m : Nat) => xs[((xs.size : Int) - 1 + (m : Int) * (-1)).toNat]?).toArray = xs.toList.reverse.toArray := by
  have e : ((List.range xs.size).filterMap fun (m : Nat) => xs[((xs.size : Int) - 1 + (m : Int) * (-1)).toNat]?) = ((List.range xs.size).map fun k => xs.size - 1 - k).filterMap (xs[·]?) := by
    rw [List.filterMap_map]
    refine congrArg (fun g => List.filterMap g (List.range xs.size)) ?_
    funext m
    show xs[((xs.size : Int) - 1 + (m : Int) * (-1)).toNat]? = xs[xs.size - 1 - m]?
    exact congrArg (fun z => xs[z]?) (by omega)
  rw [e, PySem.W.krv_range, List.filterMap_reverse, PySem.W.krv_all]
theorem item_rev {prog : Program} {w : World} {A : Around} {E : Value → Shared → Prop} {s : Shared} {t sl : Addr} {items : Array Value} {vl vu vs : Value} {Q : Value → Shared → Prop} (ht : IsTup s.heap t items) (hs : s.heap.IsSliceOf sl vl vu vs) (pl : IsPart vl none) (pu : IsPart vu none) (ps : IsPart vs (some (-1)))
    (h : Q (.ref s.heap.objs.size) { s with heap := s.heap.push { cls := .type "tuple", data := .seq items.toList.reverse.toArray } }) (hz : items.size ≤ sizeLine) : wpAny (model prog w) A (getItem (.ref t) (.ref sl)) Q E s := by
  have fits : sizeOk (.seq items.toList.reverse.toArray) := by
    show items.toList.reverse.toArray.size ≤ sizeLine
    rw [List.size_toArray, List.length_reverse, Array.length_toList]
    exact hz
  obtain ⟨os, hos, hcs, hds⟩ := id hs
  have hTs : s.TypeIs (.ref sl) "slice" := ⟨os, hos, hcs⟩
  unfold getItem
  try with_reducible refine wpAny_holding ?_
  first | refine wpAny_bind (wpAny_pure ?_) | skip
  refine wpAny_bind (wpAny_sequenceKey ht.typeIs (by decide) ?_)
  refine wpAny_bind (wpAny_callSpecial?_slot (name := Str.ofString "__getitem__") ht.typeIs PyProof.Rows.slot_tuple_getitem (wpAny_call_entry PyProof.Rows.slot_tuple_getitem ht.typeIs entry_tuple_getitem ?_ (args_tuple_getitem _ _)))
  show wpAny _ _ (Builtin.Tuple.tupleItemsOf (.ref t) >>= _) _ _ s
  refine wpAny_bind (tupleItemsOf_ ht ?_)
  refine wpAny_bind (wpAny_typeOf hTs ?_)
  rw [if_pos (by decide)]
  refine wpAny_bind (applied_rev hs pl pu ps ?_)
  have hno : ¬ (((items.size : Int) - 1 == 0 && (-1 : Int) == 1 && items.size == items.size) = true) := by simp
  show wpAny _ _ (if ((items.size : Int) - 1 == 0 && (-1 : Int) == 1 && items.size == items.size) = true then _ else _) _ _ s
  rw [if_neg hno, pick_rev]
  first
    | exact wpAny_bind (m := Builtin.Tuple.tupleExact _) (wpAny_newObj_type (wpAny_pure ⟨_, rfl, wpAny_pure h⟩) fits)
    | exact wpAny_bind (m := Builtin.Tuple.tupleExact _) (wpAny_newObj_type (wpAny_bind (wpAny_pure (wpAny_pure ⟨_, rfl, wpAny_pure h⟩))) fits)
    | exact wpAny_bind (wpAny_bind (m := Builtin.Tuple.tupleExact _) (wpAny_newObj_type (wpAny_pure (wpAny_pure ⟨_, rfl, wpAny_pure h⟩)) fits))
    | exact wpAny_bind (wpAny_bind (m := Builtin.Tuple.tupleExact _) (wpAny_newObj_type (wpAny_pure ⟨_, rfl, wpAny_pure h⟩) fits))
def tRevT (K : PySem.W.Frag) (te : TE) : TE := fun σ H Q => te σ H fun x H1 => ∃ a xs, x = .ref a ∧ SqT K H1 a xs ∧ ∀ p, H1 p = none → Q (.ref p) (upd H1 p (.tup xs.reverse))
theorem pe_revT {e : Expr} {te : TE} {k : Nat} {p1 p2 p3 pos : Pos} (he : PE X e te) : PE X (.Subscript e (.Slice none none (some (.UnaryOp .USub (.Constant (.int 1) k p1) p2)) p3) pos) (tRevT X.K te) := by
  refine ⟨fun pins s σ H Q I h => ?_⟩
  refine Subscript_ (thn (he.run pins s σ H _ I h) fun v s1 ⟨x, H1, I1, r1, q1⟩ => ?_)
  obtain ⟨a, xs, ex, hx, q⟩ := q1
  subst ex
  cases r1
  have hst : PO X (some (.UnaryOp .USub (.Constant (.int 1) k p1) p2)) (tPart (tUn (rU fun i => .int (-i)) (tC (.int 1)))) := po_some (pe_un un_neg pe_int)
  refine wpAny_Slice (thn (po_none.run pins s1 σ H1 (fun o H2 => o = none ∧ H2 = H1) I1 ⟨rfl, rfl⟩) fun vl s2 ⟨l, H2, I2, pl, el, e2⟩ => ?_)
  subst el e2
  refine thn (po_none.run pins s2 σ H2 (fun o H3 => o = none ∧ H3 = H2) I2 ⟨rfl, rfl⟩) fun vu s3 ⟨u, H3, I3, pu, eu, e3⟩ => ?_
  subst eu e3
  refine thn (hst.run pins s3 σ H3 (fun o H4 => o = some (-1) ∧ H4 = H3) I3 ⟨1, rfl, -1, rfl, rfl, rfl⟩) fun vs s4 ⟨o, H4, I4, ps, eo, e4⟩ => ?_
  subst eo e4
  have I5 : Inv X pins σ H4 { s4 with heap := s4.heap.push { cls := .type "slice", data := .fields #[vl, vu, vs] } } := I4.kept (t' := s4.toks) fun b ob q => Heap.get?_push_of_some _ q
  obtain ⟨its, r, ht, hz⟩ := I5.tuple hx
  have hlen := r.length
  show wpAny (model X.prog X.w) X.A (subscriptTail e (.Slice none none (some (.UnaryOp .USub (.Constant (.int 1) k p1) p2)) p3) (.ref a) (.ref s4.heap.objs.size)) (EP X pins σ Q) X.xe { s4 with heap := s4.heap.push { cls := .type "slice", data := .fields #[vl, vu, vs] } }
  refine tail_any (ops := [.ref a, .ref s4.heap.objs.size]) ht.typeIs (PyProof.Rows.slot_tuple_getitem.lookup) ?_ (by with_unfolding_all rfl)
  refine item_rev ht (Heap.IsSliceOf.new _ vl vu vs) pl pu ps ?_ (by rw [List.size_toArray]; omega)
  refine ⟨.ref _, _, I5.laid (t' := s4.toks) (o := .tup xs.reverse) (fun b ob q => Heap.get?_push_of_some _ q) (Nat.le_refl _) ?_, rfl, q _ (I5.hok.fresh (Nat.le_refl _))⟩
  exact ⟨by rw [List.length_reverse]; exact hz, _, r.reverse, IsTup.new _ _⟩
/-! ### a def called by names alone -/
theorem pe_kw0 {CX : CXT} {k : Nat} {f : Addr} {fd : FuncData} {ps ks : List Str} {sp : Sp} {E : XK} {x : Str} {p pos : Pos} {kws : List Keyword} {tk : TA} {g : List Value → List Value → List Value} {gV : List V → List V → List V}
    (F : FnOk X.prog X.w X.K X.mg X.base CX k f fd ps sp) (hr : Room k X.A) (hg : Gl X x) (hm : X.mg x = some (.ref f)) (hk : PySem.W.keepIn X.K (.ref f) = true) (hb : KBinds X.K fd ps ks g gV) (hx : Passes CX X E) (hkw : PK X kws tk)
    (hall : (backToKw pos (keywordEach kws X.env)).all (·.1.isSome) = true := by rfl) (hks : (backToKw pos (keywordEach kws X.env)).filterMap (·.1) = ks := by rfl) (hdb : (x == ("__debug__" : Str)) = false := by decide)
    (hpl : ((backTo pos (starEach [] X.env)).any (·.1) || (backToKw pos (keywordEach kws X.env)).any (·.1.isNone)) = false := by rfl) :
    PE X (.Call (.Name x p) [] kws pos) (tCallK sp gV E tNil tk) := by
  refine ⟨fun pins s σ H Q I h => ?_⟩
  refine wpAny_Call_Name_kw (ld_glob I hg hm ?_ hdb)
  refine PySem.W.callWith_KW0 (h₀ := X.base) I.ok.mod.kin hk hall ?_ hpl
  refine thn (hkw.run pos pins s σ H _ I h) fun ws s2 ⟨zs, H2, I2, rz, q2⟩ => ⟨I2.kIn, ?_⟩
  rw [hks]
  exact run_fnk (us := []) (vs := []) F hr hb hx I2 .nil rz q2
/-! ### a comprehension over a text -/
theorem lc_str {x : Str} {g : TG} {tt : TT} {te : TE} {vs : List Nat} {σ : L2.St} {H1 : Hp} {D : Addr} {Qd : Hp → Prop} (Pv : Nat → Hp → Prop) (h0 : Pv 0 (upd H1 D (.lst [])))
    (hs : ∀ i c H, x.cps[i]? = some c → Pv i H → g (.str ⟨#[c]⟩) (wipe σ vs) H fun σ2 H2 => wipe σ2 vs = wipe σ vs ∧ tt σ2 H2 fun b H3 =>
      if b = true then te σ2 H3 fun y H4 => ∃ acc, H4 D = some (.lst acc) ∧ acc.length < sizeLine ∧ Pv (i + 1) (upd H4 D (.lst (acc ++ [y]))) else Pv (i + 1) H3) (hd : ∀ H, Pv x.cps.size H → Qd H) :
    ∃ W : Nat → Nat → Hp → Prop, (∃ m, W 0 m (upd H1 D (.lst []))) ∧ ∀ i m H, W i m H →
      ((Its x).stop i H ∧ Qd H) ∨ ((Its x).go i H ∧ ∃ Nx : Hp → Prop, (∀ H', Nx H' → ∃ m', m' < m ∧ W (i + 1) m' H') ∧ ∀ y H', (Its x).yld i H y H' → g y (wipe σ vs) H' fun σ2 H2 => wipe σ2 vs = wipe σ vs ∧ tt σ2 H2 fun b H3 =>
        if b = true then te σ2 H3 fun y H4 => ∃ acc, H4 D = some (.lst acc) ∧ acc.length < sizeLine ∧ Nx (upd H4 D (.lst (acc ++ [y]))) else Nx H3) := by
  refine ⟨fun i m H => m = x.cps.size - i ∧ i ≤ x.cps.size ∧ Pv i H, ⟨_, rfl, Nat.zero_le _, h0⟩, ?_⟩
  rintro i m H ⟨rfl, hi, p⟩
  by_cases hlt : i < x.cps.size
  · refine .inr ⟨hlt, Pv (i + 1), fun H' p' => ⟨x.cps.size - (i + 1), by omega, rfl, hlt, p'⟩, fun y H' hy => ?_⟩
    obtain ⟨rfl, c, hc, rfl⟩ := hy
    exact hs i c _ hc p
  · have e : i = x.cps.size := by omega
    subst e
    exact .inl ⟨Nat.le_refl _, hd _ p⟩
end
end My

set_option Elab.async false
set_option linter.all false
set_option maxRecDepth 100000
set_option maxHeartbeats 4000000
namespace My
open PySem L2
/-! ### things as trees -/
def base (H : Hp) (T : V → List PyData → Prop) (v : V) : PyData → Prop
  | .none => v = .non
  | .bool b => v = .bl b
  | .int i => v = .int i
  | .str x => v = .str x
  | .list _ => ∃ a xs, v = .ref a ∧ H a = some (.lst xs)
  | .dict _ => ∃ a, v = .ref a ∧ H a = some (.dK [])
  | .tuple ds => T v ds
/-- v is the tree d, tuples at most n within one another; of a list and a dict only that they are such -/
def Rep (H : Hp) : Nat → V → PyData → Prop
  | 0 => base H fun _ _ => False
  | n + 1 => base H fun v ds => ∃ a xs, v = .ref a ∧ H a = some (.tup xs) ∧ Paired (Rep H n) xs ds
theorem base_mono {H H' : Hp} {T T' : V → List PyData → Prop} {v : V} {d : PyData} (hl : ∀ a xs, H a = some (.lst xs) → H' a = some (.lst xs)) (hd : ∀ a, H a = some (.dK []) → H' a = some (.dK [])) (ht : ∀ ds, T v ds → T' v ds)
    (h : base H T v d) : base H' T' v d := by
  cases d with
  | none => exact h
  | bool b => exact h
  | int i => exact h
  | str x => exact h
  | list ds =>
    obtain ⟨a, xs, e, q⟩ := h
    exact ⟨a, xs, e, hl a xs q⟩
  | dict kvs =>
    obtain ⟨a, e, q⟩ := h
    exact ⟨a, e, hd a q⟩
  | tuple ds => exact ht ds h
theorem Rep.mono {H : Hp} : ∀ {n m : Nat} {v : V} {d : PyData}, n ≤ m → Rep H n v d → Rep H m v d
  | 0, 0, _, _, _, h => h
  | 0, m + 1, _, _, _, h => base_mono (fun _ _ q => q) (fun _ q => q) (fun _ z => z.elim) h
  | n + 1, 0, _, _, h, _ => absurd h (by omega)
  | n + 1, m + 1, v, d, hm, h => base_mono (fun _ _ q => q) (fun _ q => q) (fun ds ⟨a, xs, e, q, p⟩ => ⟨a, xs, e, q, Paired.mapP p fun _ _ z => Rep.mono (by omega) z⟩) h
/-- all but what stands at d is kept -/
def Kp (d : Addr) (H H' : Hp) : Prop := ∀ c o, H c = some o → c ≠ d → H' c = some o
theorem Kp.refl (d : Addr) (H : Hp) : Kp d H H := fun _ _ e _ => e
theorem Kp.trans {d : Addr} {H H1 H2 : Hp} (a : Kp d H H1) (b : Kp d H1 H2) : Kp d H H2 := fun c o e n => b c o (a c o e n) n
theorem Kp.of {d : Addr} {H H' : Hp} (s : Same H H') : Kp d H H' := fun c o e _ => s c o e
theorem Rep.keep {H H' : Hp} {d : Addr} {kvs : List (Key × V)} (hd : H d = some (.dK kvs)) (hne : kvs ≠ []) (k : Kp d H H') : ∀ {n : Nat} {v : V} {x : PyData}, Rep H n v x → Rep H' n v x := by
  have kl : ∀ a xs, H a = some (.lst xs) → H' a = some (.lst xs) := fun a xs e => k a _ e (ne_of e hd (by intro z; cases z))
  have kd : ∀ a, H a = some (.dK []) → H' a = some (.dK []) := fun a e => k a _ e (ne_of e hd (by intro z; exact hne (HO.dK.inj z).symm))
  intro n
  induction n with
  | zero =>
    intro v x h
    exact base_mono kl kd (fun _ z => z) h
  | succ n ih =>
    intro v x h
    exact base_mono kl kd (fun ds ⟨a, xs, e, q, p⟩ => ⟨a, xs, e, k a _ q (ne_of q hd (by intro z; cases z)), Paired.mapP p fun _ _ z => ih z⟩) h
theorem Rep.same {H H' : Hp} (s : Same H H') : ∀ {n : Nat} {v : V} {x : PyData}, Rep H n v x → Rep H' n v x := by
  intro n
  induction n with
  | zero =>
    intro v x h
    exact base_mono (fun _ _ e => s _ _ e) (fun _ e => s _ _ e) (fun _ z => z) h
  | succ n ih =>
    intro v x h
    exact base_mono (fun _ _ e => s _ _ e) (fun _ e => s _ _ e) (fun ds ⟨a, xs, e, q, p⟩ => ⟨a, xs, e, s _ _ q, Paired.mapP p fun _ _ z => ih z⟩) h
/-! ### sizes -/
mutual
def szD : PyData → Nat
  | .tuple ds => 1 + szL ds
  | .str x => 1 + x.length
  | .none => 1
  | .bool _ => 1
  | .int _ => 1
  | .list _ => 1
  | .dict _ => 1
def szL : List PyData → Nat
  | [] => 0
  | d :: ds => szD d + szL ds
end
theorem szD_pos (d : PyData) : 1 ≤ szD d := by
  cases d <;> simp [szD] <;> omega
theorem szL_app : ∀ (xs ys : List PyData), szL (xs ++ ys) = szL xs + szL ys
  | [], ys => by simp [szL]
  | x :: xs, ys => by
    rw [List.cons_append, szL, szL, szL_app xs ys]; omega
theorem szL_len : ∀ xs : List PyData, xs.length ≤ szL xs
  | [] => Nat.le_refl _
  | x :: xs => by
    have h1 := szL_len xs
    have h2 := szD_pos x
    rw [List.length_cons, szL]; omega
theorem szL_get : ∀ {xs : List PyData} {i : Nat} {d : PyData}, xs[i]? = some d → szD d ≤ szL xs
  | [], _, _, e => by simp at e
  | x :: xs, 0, d, e => by
    simp at e
    subst e
    rw [szL]; omega
  | x :: xs, i + 1, d, e => by
    have h := szL_get (xs := xs) (i := i) (d := d) (by simpa using e)
    rw [szL]; omega
theorem szL_td : ∀ (xs : List PyData) (i : Nat), szL (xs.take i) + szL (xs.drop i) = szL xs := fun xs i => by
  rw [← szL_app, List.take_append_drop]
theorem szL_rev : ∀ xs : List PyData, szL xs.reverse = szL xs
  | [] => rfl
  | x :: xs => by
    rw [List.reverse_cons, szL_app, szL_rev xs, szL, szL, szL]; omega
theorem szL_rep (d : PyData) : ∀ k : Nat, szL (List.replicate k d) = k * szD d
  | 0 => by simp [szL]
  | k + 1 => by
    rw [List.replicate_succ, szL, szL_rep d k, Nat.succ_mul]; omega
/-! ### words and worths, as both sides tell them -/
def letters : List Nat := (Str.ofString "abcdefghijklmnopqrstuvwxyz").cps.toList
def isWd (x : Str) : Bool := decide (1 ≤ x.length ∧ x.length ≤ 8) && x.cps.toList.all fun c => decide (c ∈ letters)
def leafW : PyData → Bool
  | .none => true
  | .int i => decide (-1000000000 ≤ i ∧ i ≤ 1000000000)
  | .str x => isWd x
  | _ => false
def isW : Nat → PyData → Bool
  | 0, .tuple _ => false
  | n + 1, .tuple ds => decide (ds.length ≤ 20) && ds.all (isW n)
  | _, d => leafW d
theorem isW_leaf {n : Nat} {d : PyData} (h : ∀ ds, d ≠ .tuple ds) : isW n d = leafW d := by
  cases n <;> cases d <;> first | rfl | exact absurd rfl (h _)
/-! ### texts -/
def leafT : PyData → Str
  | .none => "-"
  | .int i => toString i
  | .str x => x
  | _ => ""
def shW : Nat → PyData → Str
  | n + 1, .tuple ds => Txt.join " " ((("<" : Str) :: ds.map (shW n)) ++ [(">" : Str)])
  | _, d => leafT d
theorem shW_leaf {n : Nat} {d : PyData} (h : ∀ ds, d ≠ .tuple ds) : shW n d = leafT d := by
  cases n <;> cases d <;> first | rfl | exact absurd rfl (h _)
/-! ### two unlike worths have unlike texts -/
open TL in
theorem joinL_app (S : List Nat) : ∀ {ps qs : List (List Nat)}, ps ≠ [] → qs ≠ [] → joinL S (ps ++ qs) = joinL S ps ++ (S ++ joinL S qs)
  | [], _, h, _ => absurd rfl h
  | [p], [], _, h => absurd rfl h
  | [p], q :: r, _, _ => rfl
  | p :: p2 :: ps, qs, _, h => by
    show p ++ (S ++ joinL S ((p2 :: ps) ++ qs)) = (p ++ (S ++ joinL S (p2 :: ps))) ++ (S ++ joinL S qs)
    rw [joinL_app S (by simp) h]
    simp [List.append_assoc]
open TL in
theorem joinL_flat (S : List Nat) : ∀ {pss : List (List (List Nat))}, (∀ ps ∈ pss, ps ≠ []) → joinL S (pss.map (joinL S)) = joinL S pss.flatten
  | [], _ => rfl
  | [ps], _ => by simp [joinL]
  | ps :: qs :: r, h => by
    have h1 : ps ≠ [] := h ps (List.mem_cons_self ..)
    have h2 : qs ≠ [] := h qs (by simp)
    have h3 : (qs :: r).flatten ≠ [] := by
      rw [List.flatten_cons]
      intro z
      exact h2 (List.append_eq_nil_iff.mp z).1
    show joinL S ps ++ (S ++ joinL S ((qs :: r).map (joinL S))) = joinL S (ps :: qs :: r).flatten
    rw [joinL_flat S (fun z hz => h z (List.mem_cons_of_mem _ hz)), show (ps :: qs :: r).flatten = ps ++ (qs :: r).flatten from rfl, joinL_app S h1 h3]
def tkL : Nat → PyData → List (List Nat)
  | n + 1, .tuple ds => [60] :: ((ds.map (tkL n)).flatten ++ [[62]])
  | _, d => [TL.tl (leafT d)]
theorem tkL_leaf {n : Nat} {d : PyData} (h : ∀ ds, d ≠ .tuple ds) : tkL n d = [TL.tl (leafT d)] := by
  cases n <;> cases d <;> first | rfl | exact absurd rfl (h _)
theorem tkL_ne (n : Nat) (d : PyData) : tkL n d ≠ [] := by
  cases n <;> cases d <;> simp [tkL]
theorem tl_shW : ∀ (n : Nat) (d : PyData), TL.tl (shW n d) = TL.joinL [32] (tkL n d)
  | 0, d => by cases d <;> rfl
  | n + 1, .tuple ds => by
    show TL.tl (Txt.join " " ((("<" : Str) :: ds.map (shW n)) ++ [(">" : Str)])) = TL.joinL [32] ([60] :: ((ds.map (tkL n)).flatten ++ [[62]]))
    rw [TL.join_eq, TL.tl_join, show TL.tl " " = [32] by decide +kernel]
    have e1 : ((("<" : Str) :: ds.map (shW n)) ++ [(">" : Str)]).map TL.tl = ([[[60]]] ++ ds.map (tkL n) ++ [[[62]]]).map (TL.joinL [32]) := by
      rw [List.map_append, List.map_cons, List.map_map, List.map_append, List.map_append, List.map_map]
      have e2 : ds.map (TL.tl ∘ shW n) = ds.map (TL.joinL [32] ∘ tkL n) := List.map_congr_left fun d _ => tl_shW n d
      rw [e2, show TL.tl ("<" : Str) = [60] by decide +kernel, show [(">" : Str)].map TL.tl = [[62]] by decide +kernel]
      rfl
    rw [e1, joinL_flat [32] (fun ps hp => ?_)]
    · simp [List.flatten_append]
    · rcases List.mem_append.mp hp with hp | hp
      · rcases List.mem_append.mp hp with hp | hp
        · rw [List.mem_singleton.mp hp]; simp
        · obtain ⟨d, _, rfl⟩ := List.mem_map.mp hp
          exact tkL_ne n d
      · rw [List.mem_singleton.mp hp]; simp
  | n + 1, .none => rfl
  | n + 1, .bool _ => rfl
  | n + 1, .int _ => rfl
  | n + 1, .str _ => rfl
  | n + 1, .list _ => rfl
  | n + 1, .dict _ => rfl
theorem ofS_app (a b : String) : Str.ofString (a ++ b) = Str.ofString a ++ Str.ofString b := by
  apply TL.ext_tl
  rw [TL.tl_append]
  simp [TL.tl, Str.ofString_eq_toList]
theorem tl_int (i : Int) : TL.tl (leafT (.int i)) = if i < 0 then 45 :: TL.numL i.natAbs else TL.numL i.natAbs := by
  show TL.tl (Str.ofString (toString i)) = _
  cases i with
  | ofNat m =>
    rw [if_neg (by simp)]
    exact TL.tl_num m
  | negSucc m =>
    rw [if_pos (Int.negSucc_lt_zero m)]
    have h : toString (Int.negSucc m) = "-" ++ toString ((m + 1 : Nat) : Int) := rfl
    rw [h, ofS_app, TL.tl_append, TL.tl_num]
    rfl
theorem letters_lo : ∀ c ∈ letters, 97 ≤ c ∧ c ≤ 122 := by decide +kernel
theorem isWd_let {x : Str} (h : isWd x = true) : (∀ c ∈ TL.tl x, 97 ≤ c ∧ c ≤ 122) ∧ TL.tl x ≠ [] ∧ x.length ≤ 8 := by
  unfold isWd at h
  rw [Bool.and_eq_true, decide_eq_true_eq, List.all_eq_true] at h
  obtain ⟨⟨h1, h2⟩, h3⟩ := h
  refine ⟨fun c hc => letters_lo c (of_decide_eq_true (h3 c hc)), fun z => ?_, h2⟩
  rw [TL.len_tl, z] at h1
  exact absurd h1 (by decide)
/-- the sign of a leaf that is no tuple: its kind is seen at its first code -/
theorem leaf_inj {d e : PyData} (hd : leafW d = true) (he : leafW e = true) (h : TL.tl (leafT d) = TL.tl (leafT e)) : d = e := by
  have digs : ∀ (i : Int) (c : Nat), c ∈ TL.tl (leafT (.int i)) → c = 45 ∨ (48 ≤ c ∧ c ≤ 57) := by
    intro i c hc
    rw [tl_int] at hc
    have dg := TL.numL_digits i.natAbs
    split at hc
    · rcases List.mem_cons.mp hc with z | z
      · exact .inl z
      · exact .inr (dg c z)
    · exact .inr (dg c hc)
  have int_ne : ∀ i : Int, TL.tl (leafT (.int i)) ≠ [] ∧ TL.tl (leafT (.int i)) ≠ [45] := by
    intro i
    rw [tl_int]
    have n0 := TL.numL_ne i.natAbs
    split
    · refine ⟨by simp, fun z => n0 ?_⟩
      exact (List.cons.inj z).2
    · refine ⟨n0, fun z => ?_⟩
      have := TL.numL_digits i.natAbs 45 (by rw [z]; simp)
      omega
  have none_t : TL.tl (leafT .none) = [45] := by decide +kernel
  cases d with
  | none =>
    cases e with
    | none => rfl
    | int i => exact absurd (h.symm.trans none_t) (int_ne i).2
    | str x =>
      have hx := (isWd_let he).1
      have : (45 : Nat) ∈ TL.tl x := by
        rw [show TL.tl x = [45] from h.symm.trans none_t]; simp
      exact absurd (hx 45 this).1 (by decide)
    | bool b => exact absurd (show false = true from he) Bool.false_ne_true
    | list l => exact absurd (show false = true from he) Bool.false_ne_true
    | tuple l => exact absurd (show false = true from he) Bool.false_ne_true
    | dict l => exact absurd (show false = true from he) Bool.false_ne_true
  | int i =>
    cases e with
    | none => exact absurd (h.trans none_t) (int_ne i).2
    | int j =>
      rw [tl_int, tl_int] at h
      have ni := TL.numL_digits i.natAbs
      have nj := TL.numL_digits j.natAbs
      by_cases hi : i < 0 <;> by_cases hj : j < 0
      · rw [if_pos hi, if_pos hj] at h
        have := TL.numL_inj (List.cons.inj h).2
        have e : i = j := by omega
        rw [e]
      · rw [if_pos hi, if_neg hj] at h
        have := nj 45 (by rw [← h]; simp)
        omega
      · rw [if_neg hi, if_pos hj] at h
        have := ni 45 (by rw [h]; simp)
        omega
      · rw [if_neg hi, if_neg hj] at h
        have := TL.numL_inj h
        have e : i = j := by omega
        rw [e]
    | str x =>
      have hx := (isWd_let he).1
      have hn := (isWd_let he).2.1
      obtain ⟨c, r, hc⟩ := List.exists_cons_of_ne_nil hn
      have m1 : c ∈ TL.tl x := by rw [hc]; simp
      have m2 : c ∈ TL.tl (leafT (.int i)) := by
        rw [h]; exact m1
      have := hx c m1
      have := digs i c m2
      omega
    | bool b => exact absurd (show false = true from he) Bool.false_ne_true
    | list l => exact absurd (show false = true from he) Bool.false_ne_true
    | tuple l => exact absurd (show false = true from he) Bool.false_ne_true
    | dict l => exact absurd (show false = true from he) Bool.false_ne_true
  | str x =>
    have hx := (isWd_let hd).1
    have hn := (isWd_let hd).2.1
    obtain ⟨c, r, hc⟩ := List.exists_cons_of_ne_nil hn
    have m1 : c ∈ TL.tl x := by rw [hc]; simp
    cases e with
    | none =>
      have : (45 : Nat) ∈ TL.tl x := by
        rw [show TL.tl x = [45] from h.trans none_t]; simp
      exact absurd (hx 45 this).1 (by decide)
    | int j =>
      have m2 : c ∈ TL.tl (leafT (.int j)) := by
        rw [← h]; exact m1
      have := hx c m1
      have := digs j c m2
      omega
    | str y => rw [TL.ext_tl (show TL.tl x = TL.tl y from h)]
    | bool b => exact absurd (show false = true from he) Bool.false_ne_true
    | list l => exact absurd (show false = true from he) Bool.false_ne_true
    | tuple l => exact absurd (show false = true from he) Bool.false_ne_true
    | dict l => exact absurd (show false = true from he) Bool.false_ne_true
  | bool b => exact absurd (show false = true from hd) Bool.false_ne_true
  | list l => exact absurd (show false = true from hd) Bool.false_ne_true
  | tuple l => exact absurd (show false = true from hd) Bool.false_ne_true
  | dict l => exact absurd (show false = true from hd) Bool.false_ne_true
/-- no leaf's sign is a bracket, none has a blank -/
theorem leaf_no {d : PyData} (hd : leafW d = true) : TL.tl (leafT d) ≠ [60] ∧ TL.tl (leafT d) ≠ [62] ∧ (32 : Nat) ∉ TL.tl (leafT d) := by
  have key : ∀ c ∈ TL.tl (leafT d), c = 45 ∨ (48 ≤ c ∧ c ≤ 57) ∨ (97 ≤ c ∧ c ≤ 122) := by
    cases d with
    | none =>
      intro c hc
      have : TL.tl (leafT .none) = [45] := by decide +kernel
      rw [this] at hc
      exact .inl (List.mem_singleton.mp hc)
    | int i =>
      intro c hc
      rw [tl_int] at hc
      have dg := TL.numL_digits i.natAbs
      split at hc
      · rcases List.mem_cons.mp hc with z | z
        · exact .inl z
        · exact .inr (.inl (dg c z))
      · exact .inr (.inl (dg c hc))
    | str x =>
      intro c hc
      exact .inr (.inr ((isWd_let hd).1 c hc))
    | bool b => exact absurd (show false = true from hd) Bool.false_ne_true
    | list l => exact absurd (show false = true from hd) Bool.false_ne_true
    | tuple l => exact absurd (show false = true from hd) Bool.false_ne_true
    | dict l => exact absurd (show false = true from hd) Bool.false_ne_true
  refine ⟨fun z => ?_, fun z => ?_, fun z => ?_⟩
  · have := key 60 (by rw [z]; simp)
    omega
  · have := key 62 (by rw [z]; simp)
    omega
  · have := key 32 z
    omega
theorem isW_tup {n : Nat} {ds : List PyData} (h : isW n (.tuple ds) = true) : ∃ m, n = m + 1 ∧ ds.length ≤ 20 ∧ ∀ d ∈ ds, isW m d = true := by
  cases n with
  | zero => exact absurd h (by simp [isW])
  | succ m =>
    rw [isW, Bool.and_eq_true, decide_eq_true_eq, List.all_eq_true] at h
    exact ⟨m, rfl, h.1, h.2⟩
theorem notTup {d : PyData} : (∃ ds, d = .tuple ds) ∨ ∀ ds, d ≠ .tuple ds := by
  cases d with
  | tuple ds => exact .inl ⟨ds, rfl⟩
  | _ => exact .inr fun ds z => by cases z
theorem tk_pre : ∀ (n : Nat) {d e : PyData} {r r' : List (List Nat)}, isW n d = true → isW n e = true → tkL n d ++ r = tkL n e ++ r' → d = e ∧ r = r' := by
  intro n
  induction n with
  | zero =>
    intro d e r r' hd he h
    have nd : ∀ ds, d ≠ .tuple ds := fun ds z => by rw [z] at hd; exact absurd hd (by simp [isW])
    have ne : ∀ ds, e ≠ .tuple ds := fun ds z => by rw [z] at he; exact absurd he (by simp [isW])
    rw [isW_leaf nd] at hd
    rw [isW_leaf ne] at he
    rw [tkL_leaf nd, tkL_leaf ne] at h
    obtain ⟨h1, h2⟩ := List.cons.inj h
    exact ⟨leaf_inj hd he h1, h2⟩
  | succ n ih =>
    have lists : ∀ (ds es : List PyData) (r r' : List (List Nat)), (∀ d ∈ ds, isW n d = true) → (∀ e ∈ es, isW n e = true) → (ds.map (tkL n)).flatten ++ ([62] :: r) = (es.map (tkL n)).flatten ++ ([62] :: r') → ds = es ∧ r = r' := by
      have first : ∀ (d : PyData) (q : List (List Nat)) (t : List (List Nat)), isW n d = true → [62] :: t = tkL n d ++ q → False := by
        intro d q t hd h
        rcases @notTup d with ⟨ds, rfl⟩ | nd
        · obtain ⟨m, rfl, _, _⟩ := isW_tup hd
          rw [tkL] at h
          exact absurd (List.cons.inj h).1 (by decide)
        · rw [tkL_leaf nd] at h
          rw [isW_leaf nd] at hd
          exact (leaf_no hd).2.1 (List.cons.inj h).1.symm
      intro ds
      induction ds with
      | nil =>
        intro es r r' _ he h
        cases es with
        | nil => exact ⟨rfl, (List.cons.inj h).2⟩
        | cons e es =>
          rw [List.map_cons, List.flatten_cons, List.append_assoc] at h
          exact (first e _ _ (he e (List.mem_cons_self ..)) h).elim
      | cons d ds ihl =>
        intro es r r' hd he h
        cases es with
        | nil =>
          rw [List.map_cons, List.flatten_cons, List.append_assoc] at h
          exact (first d _ _ (hd d (List.mem_cons_self ..)) h.symm).elim
        | cons e es =>
          rw [List.map_cons, List.flatten_cons, List.append_assoc, List.map_cons, List.flatten_cons, List.append_assoc] at h
          obtain ⟨h1, h2⟩ := ih (hd d (List.mem_cons_self ..)) (he e (List.mem_cons_self ..)) h
          obtain ⟨h3, h4⟩ := ihl es r r' (fun z hz => hd z (List.mem_cons_of_mem _ hz)) (fun z hz => he z (List.mem_cons_of_mem _ hz)) h2
          exact ⟨by rw [h1, h3], h4⟩
    intro d e r r' hd he h
    rcases @notTup d with ⟨ds, rfl⟩ | nd
    · obtain ⟨m, em, _, kd⟩ := isW_tup hd
      cases em
      rcases @notTup e with ⟨es, rfl⟩ | ne
      · obtain ⟨m2, em2, _, ke⟩ := isW_tup he
        cases em2
        rw [tkL, tkL, List.cons_append, List.cons_append, List.append_assoc, List.append_assoc] at h
        obtain ⟨h1, h2⟩ := lists ds es r r' kd ke (List.cons.inj h).2
        exact ⟨by rw [h1], h2⟩
      · rw [tkL_leaf ne, tkL] at h
        rw [isW_leaf ne] at he
        exact ((leaf_no he).1 (List.cons.inj h).1.symm).elim
    · rcases @notTup e with ⟨es, rfl⟩ | ne
      · rw [tkL_leaf nd, tkL] at h
        rw [isW_leaf nd] at hd
        exact ((leaf_no hd).1 (List.cons.inj h).1).elim
      · rw [isW_leaf nd] at hd
        rw [isW_leaf ne] at he
        rw [tkL_leaf nd, tkL_leaf ne] at h
        obtain ⟨h1, h2⟩ := List.cons.inj h
        exact ⟨leaf_inj hd he h1, h2⟩
theorem tk_free : ∀ (n : Nat) {d : PyData}, isW n d = true → ∀ t ∈ tkL n d, (32 : Nat) ∉ t := by
  intro n
  induction n with
  | zero =>
    intro d hd t ht
    have nd : ∀ ds, d ≠ .tuple ds := fun ds z => by rw [z] at hd; exact absurd hd (by simp [isW])
    rw [isW_leaf nd] at hd
    rw [tkL_leaf nd] at ht
    rw [List.mem_singleton.mp ht]
    exact (leaf_no hd).2.2
  | succ n ih =>
    intro d hd t ht
    rcases @notTup d with ⟨ds, rfl⟩ | nd
    · obtain ⟨m, em, _, kd⟩ := isW_tup hd
      cases em
      rw [tkL] at ht
      rcases List.mem_cons.mp ht with z | z
      · rw [z]; decide
      · rcases List.mem_append.mp z with z | z
        · obtain ⟨l, hl, htl⟩ := List.mem_flatten.mp z
          obtain ⟨e, hee, rfl⟩ := List.mem_map.mp hl
          exact ih (kd e hee) t htl
        · rw [List.mem_singleton.mp z]; decide
    · rw [isW_leaf nd] at hd
      rw [tkL_leaf nd] at ht
      rw [List.mem_singleton.mp ht]
      exact (leaf_no hd).2.2
theorem shW_inj {n : Nat} {d e : PyData} (hd : isW n d = true) (he : isW n e = true) (h : shW n d = shW n e) : d = e := by
  have h1 : TL.joinL [32] (tkL n d) = TL.joinL [32] (tkL n e) := by
    rw [← tl_shW, ← tl_shW, h]
  have h2 := congrArg (TL.spl [32] 0 []) h1
  rw [TL.spl_join (tkL_ne n d) (tk_free n hd), TL.spl_join (tkL_ne n e) (tk_free n he)] at h2
  exact (tk_pre n (r := []) (r' := []) hd he (by rw [h2])).1
end My

set_option Elab.async false
set_option linter.all false
set_option maxRecDepth 100000
set_option maxHeartbeats 4000000
namespace My
open PySem L2
/-! ### how long a worth's text is, and its signs -/
def sumL : List (List Nat) → Nat
  | [] => 0
  | p :: ps => (p.length + 1) + sumL ps
theorem sumL_app : ∀ ps qs : List (List Nat), sumL (ps ++ qs) = sumL ps + sumL qs
  | [], qs => by simp [sumL]
  | p :: ps, qs => by
    rw [List.cons_append, sumL, sumL, sumL_app ps qs]; omega
theorem joinL_len : ∀ {ps : List (List Nat)}, ps ≠ [] → (TL.joinL [32] ps).length + 1 = sumL ps
  | [], h => absurd rfl h
  | [p], _ => by simp [TL.joinL, sumL]
  | p :: q :: r, _ => by
    have h := joinL_len (ps := q :: r) (by simp)
    show (p ++ ([32] ++ TL.joinL [32] (q :: r))).length + 1 = (p.length + 1) + sumL (q :: r)
    rw [List.length_append, List.length_append, ← h]
    simp only [List.length_cons, List.length_nil]
    omega
theorem joinL_mem {c : Nat} : ∀ {ps : List (List Nat)}, c ∈ TL.joinL [32] ps → c = 32 ∨ ∃ t ∈ ps, c ∈ t
  | [], h => by simp [TL.joinL] at h
  | [p], h => .inr ⟨p, by simp, h⟩
  | p :: q :: r, h => by
    rcases List.mem_append.mp (show c ∈ p ++ ([32] ++ TL.joinL [32] (q :: r)) from h) with z | z
    · exact .inr ⟨p, by simp, z⟩
    · rcases List.mem_append.mp z with z | z
      · exact .inl (List.mem_singleton.mp z)
      · rcases joinL_mem z with z | ⟨t, ht, hc⟩
        · exact .inl z
        · exact .inr ⟨t, List.mem_cons_of_mem _ ht, hc⟩
theorem leaf_len {d : PyData} (hd : leafW d = true) : (TL.tl (leafT d)).length + 1 ≤ 12 * szD d := by
  cases d with
  | none => decide +kernel
  | int i =>
    have h : -1000000000 ≤ i ∧ i ≤ 1000000000 := of_decide_eq_true hd
    rw [tl_int]
    have hn : (TL.numL i.natAbs).length ≤ 10 := TL.numL_len (by decide) (show i.natAbs < 10 ^ 10 by omega)
    split
    · rw [List.length_cons, szD]; omega
    · rw [szD]; omega
  | str x =>
    show (TL.tl x).length + 1 ≤ 12 * szD (.str x)
    rw [szD, TL.len_tl]; omega
  | bool b => exact absurd (show false = true from hd) Bool.false_ne_true
  | list l => exact absurd (show false = true from hd) Bool.false_ne_true
  | tuple l => exact absurd (show false = true from hd) Bool.false_ne_true
  | dict l => exact absurd (show false = true from hd) Bool.false_ne_true
theorem leaf_sign {d : PyData} (hd : leafW d = true) : ∀ c ∈ TL.tl (leafT d), c ≤ 122 := by
  cases d with
  | none =>
    intro c hc
    rw [show TL.tl (leafT .none) = [45] by decide +kernel] at hc
    rw [List.mem_singleton.mp hc]; decide
  | int i =>
    intro c hc
    rw [tl_int] at hc
    have dg := TL.numL_digits i.natAbs
    split at hc
    · rcases List.mem_cons.mp hc with z | z
      · omega
      · have := dg c z; omega
    · have := dg c hc; omega
  | str x => exact fun c hc => ((isWd_let hd).1 c hc).2
  | bool b => exact absurd (show false = true from hd) Bool.false_ne_true
  | list l => exact absurd (show false = true from hd) Bool.false_ne_true
  | tuple l => exact absurd (show false = true from hd) Bool.false_ne_true
  | dict l => exact absurd (show false = true from hd) Bool.false_ne_true
theorem tk_sum : ∀ (n : Nat) {d : PyData}, isW n d = true → sumL (tkL n d) ≤ 12 * szD d ∧ ∀ t ∈ tkL n d, ∀ c ∈ t, c ≤ 122 := by
  intro n
  induction n with
  | zero =>
    intro d hd
    have nd : ∀ ds, d ≠ .tuple ds := fun ds z => by rw [z] at hd; exact absurd hd (by simp [isW])
    rw [isW_leaf nd] at hd
    rw [tkL_leaf nd]
    refine ⟨by simp only [sumL]; have := leaf_len hd; omega, fun t ht => ?_⟩
    rw [List.mem_singleton.mp ht]
    exact leaf_sign hd
  | succ n ih =>
    intro d hd
    rcases @notTup d with ⟨ds, rfl⟩ | nd
    · obtain ⟨m, em, _, kd⟩ := isW_tup hd
      cases em
      have key : ∀ ds : List PyData, (∀ d ∈ ds, isW n d = true) → sumL (ds.map (tkL n)).flatten ≤ 12 * szL ds ∧ ∀ t ∈ (ds.map (tkL n)).flatten, ∀ c ∈ t, c ≤ 122 := by
        intro ds
        induction ds with
        | nil => exact fun _ => ⟨by simp [sumL], fun t ht => by simp at ht⟩
        | cons e es ihl =>
          intro h
          obtain ⟨h1, h2⟩ := ih (h e (List.mem_cons_self ..))
          obtain ⟨h3, h4⟩ := ihl fun z hz => h z (List.mem_cons_of_mem _ hz)
          rw [List.map_cons, List.flatten_cons]
          refine ⟨?_, fun t ht => ?_⟩
          · rw [sumL_app, szL]; omega
          · rcases List.mem_append.mp ht with z | z
            · exact h2 t z
            · exact h4 t z
      obtain ⟨h1, h2⟩ := key ds kd
      rw [tkL]
      refine ⟨?_, fun t ht => ?_⟩
      · rw [sumL, sumL_app, szD]
        simp only [sumL, List.length_cons, List.length_nil]
        omega
      · rcases List.mem_cons.mp ht with z | z
        · rw [z]; intro c hc; rw [List.mem_singleton.mp hc]; decide
        · rcases List.mem_append.mp z with z | z
          · exact h2 t z
          · rw [List.mem_singleton.mp z]; intro c hc; rw [List.mem_singleton.mp hc]; decide
    · rw [isW_leaf nd] at hd
      rw [tkL_leaf nd]
      refine ⟨by simp only [sumL]; have := leaf_len hd; omega, fun t ht => ?_⟩
      rw [List.mem_singleton.mp ht]
      exact leaf_sign hd
theorem shW_len {n : Nat} {d : PyData} (hd : isW n d = true) : (shW n d).length + 1 ≤ 12 * szD d := by
  rw [TL.len_tl, tl_shW, joinL_len (tkL_ne n d)]
  exact (tk_sum n hd).1
theorem shW_sign {n : Nat} {d : PyData} (hd : isW n d = true) : ∀ c ∈ TL.tl (shW n d), c ≤ 122 := by
  intro c hc
  rw [tl_shW] at hc
  rcases joinL_mem hc with z | ⟨t, ht, h⟩
  · omega
  · exact (tk_sum n hd).2 t ht c h
theorem shW_repr {n : Nat} {d : PyData} (hd : isW n d = true) (hs : szD d ≤ 40000) : (reprText (shW n d)).length ≤ sizeLine := by
  have h1 := StrLaws.reprText_len (shW n d) fun c hc => Nat.lt_of_le_of_lt (shW_sign hd c hc) (by decide)
  have h2 := shW_len hd
  rw [sizeLine_eq]
  omega
/-! ### worths that are alike -/
theorem eqv_w : ∀ (n : Nat) {d e : PyData}, isW n d = true → isW n e = true → (PyData.eqv d e = true ↔ d = e) := by
  have leaf : ∀ {d e : PyData}, leafW d = true → leafW e = true → (PyData.eqv d e = true ↔ d = e) := by
    intro d e hd he
    cases d <;> cases e <;> first | exact absurd (show false = true from hd) Bool.false_ne_true | exact absurd (show false = true from he) Bool.false_ne_true | simp [PyData.eqv]
  have mixed : ∀ {d : PyData} {ds : List PyData}, leafW d = true → ¬ (PyData.eqv d (.tuple ds) = true) ∧ ¬ (PyData.eqv (.tuple ds) d = true) := by
    intro d ds hd
    cases d <;> first | exact absurd (show false = true from hd) Bool.false_ne_true | simp [PyData.eqv]
  intro n
  induction n with
  | zero =>
    intro d e hd he
    have nd : ∀ ds, d ≠ .tuple ds := fun ds z => by rw [z] at hd; exact absurd hd (by simp [isW])
    have ne : ∀ ds, e ≠ .tuple ds := fun ds z => by rw [z] at he; exact absurd he (by simp [isW])
    rw [isW_leaf nd] at hd
    rw [isW_leaf ne] at he
    exact leaf hd he
  | succ n ih =>
    have lists : ∀ ds es : List PyData, (∀ d ∈ ds, isW n d = true) → (∀ e ∈ es, isW n e = true) → (PyData.eqvAll ds es = true ↔ ds = es) := by
      intro ds
      induction ds with
      | nil => intro es _ _; cases es <;> simp [PyData.eqvAll]
      | cons d ds ihl =>
        intro es hd he
        cases es with
        | nil => simp [PyData.eqvAll]
        | cons e es =>
          rw [PyData.eqvAll, Bool.and_eq_true, ih (hd d (List.mem_cons_self ..)) (he e (List.mem_cons_self ..)), ihl es (fun z hz => hd z (List.mem_cons_of_mem _ hz)) (fun z hz => he z (List.mem_cons_of_mem _ hz))]
          constructor
          · rintro ⟨rfl, rfl⟩; rfl
          · intro h; exact ⟨(List.cons.inj h).1, (List.cons.inj h).2⟩
    intro d e hd he
    rcases @notTup d with ⟨ds, rfl⟩ | nd
    · obtain ⟨m, em, _, kd⟩ := isW_tup hd
      cases em
      rcases @notTup e with ⟨es, rfl⟩ | ne
      · obtain ⟨m2, em2, _, ke⟩ := isW_tup he
        cases em2
        rw [PyData.eqv, lists ds es kd ke]
        constructor
        · rintro rfl; rfl
        · intro h; exact PyData.tuple.inj h
      · rw [isW_leaf ne] at he
        exact ⟨fun z => ((mixed he).2 z).elim, fun z => (ne ds z.symm).elim⟩
    · rcases @notTup e with ⟨es, rfl⟩ | ne
      · rw [isW_leaf nd] at hd
        exact ⟨fun z => ((mixed hd).1 z).elim, fun z => (nd es z).elim⟩
      · rw [isW_leaf nd] at hd
        rw [isW_leaf ne] at he
        exact leaf hd he
theorem lay_w : ∀ (n : Nat) {d : PyData}, isW n d = true → d.canLay0 = true ∧ d.depth ≤ n := by
  have leaf : ∀ {d : PyData}, leafW d = true → d.canLay0 = true ∧ d.depth = 0 := by
    intro d hd
    cases d with
    | none => exact ⟨rfl, by simp [PyData.depth]⟩
    | int i => exact ⟨rfl, by simp [PyData.depth]⟩
    | str x =>
      refine ⟨?_, by simp [PyData.depth]⟩
      show PyData.strOk x = true
      unfold PyData.strOk
      rw [Array.all_eq_true']
      intro c hc
      have := (isWd_let hd).1 c (Array.mem_toList_iff.mpr hc)
      exact decide_eq_true (by omega)
    | bool b => exact absurd (show false = true from hd) Bool.false_ne_true
    | list l => exact absurd (show false = true from hd) Bool.false_ne_true
    | tuple l => exact absurd (show false = true from hd) Bool.false_ne_true
    | dict l => exact absurd (show false = true from hd) Bool.false_ne_true
  intro n
  induction n with
  | zero =>
    intro d hd
    have nd : ∀ ds, d ≠ .tuple ds := fun ds z => by rw [z] at hd; exact absurd hd (by simp [isW])
    rw [isW_leaf nd] at hd
    exact ⟨(leaf hd).1, Nat.le_of_eq (leaf hd).2⟩
  | succ n ih =>
    intro d hd
    rcases @notTup d with ⟨ds, rfl⟩ | nd
    · obtain ⟨m, em, _, kd⟩ := isW_tup hd
      cases em
      have key : ∀ ds : List PyData, (∀ d ∈ ds, isW n d = true) → PyData.canLayAll0 ds = true ∧ PyData.depthAll ds ≤ n := by
        intro ds
        induction ds with
        | nil => exact fun _ => ⟨rfl, by simp [PyData.depthAll]⟩
        | cons e es ihl =>
          intro h
          obtain ⟨h1, h2⟩ := ih (h e (List.mem_cons_self ..))
          obtain ⟨h3, h4⟩ := ihl fun z hz => h z (List.mem_cons_of_mem _ hz)
          refine ⟨by rw [PyData.canLayAll0, h1, h3]; rfl, ?_⟩
          rw [PyData.depthAll]; omega
      obtain ⟨h1, h2⟩ := key ds kd
      exact ⟨by rw [PyData.canLay0]; exact h1, by rw [PyData.depth]; omega⟩
    · rw [isW_leaf nd] at hd
      exact ⟨(leaf hd).1, by rw [(leaf hd).2]; omega⟩
theorem shaped_w {n : Nat} {d : PyData} (h : isW n d = true) (hn : n ≤ 60) : SeqAt.shaped d = true := by
  unfold SeqAt.shaped
  rw [(lay_w n h).1, Bool.true_and]
  exact decide_eq_true (by have := (lay_w n h).2; omega)
theorem dp_w {K : PySem.W.Frag} {H : Hp} : ∀ (n : Nat) {m : Nat} {v : V} {d : PyData}, isW n d = true → Rep H m v d → Dp K H v d := by
  have leaf : ∀ {T : V → List PyData → Prop} {v : V} {d : PyData}, leafW d = true → base H T v d → Dp K H v d := by
    intro T v d hd h
    cases d with
    | none => rw [show v = .non from h]; exact .non
    | int i => rw [show v = .int i from h]; exact .int i
    | str x => rw [show v = .str x from h]; exact .str x
    | bool b => exact absurd (show false = true from hd) Bool.false_ne_true
    | list l => exact absurd (show false = true from hd) Bool.false_ne_true
    | tuple l => exact absurd (show false = true from hd) Bool.false_ne_true
    | dict l => exact absurd (show false = true from hd) Bool.false_ne_true
  have leafR : ∀ {m : Nat} {v : V} {d : PyData}, leafW d = true → Rep H m v d → Dp K H v d := by
    intro m v d hd h
    cases m with
    | zero => exact leaf hd h
    | succ m => exact leaf hd h
  intro n
  induction n with
  | zero =>
    intro m v d hd h
    have nd : ∀ ds, d ≠ .tuple ds := fun ds z => by rw [z] at hd; exact absurd hd (by simp [isW])
    rw [isW_leaf nd] at hd
    exact leafR hd h
  | succ n ih =>
    intro m v d hd h
    rcases @notTup d with ⟨ds, rfl⟩ | nd
    · obtain ⟨k, ek, h20, kd⟩ := isW_tup hd
      cases ek
      cases m with
      | zero => exact (show False from h).elim
      | succ m =>
        obtain ⟨a, xs, rfl, ha, hp⟩ := (show ∃ a xs, v = .ref a ∧ H a = some (.tup xs) ∧ Paired (Rep H m) xs ds from h)
        refine .tup (SqT.of ha) ?_
        clear ha h hd h20
        induction hp with
        | nil => exact .nil
        | cons h1 h2 ihp => exact .cons (ih (kd _ (List.mem_cons_self ..)) h1) (ihp fun z hz => kd z (List.mem_cons_of_mem _ hz))
    · rw [isW_leaf nd] at hd
      exact leafR hd h
end My

set_option Elab.async false
set_option linter.all false
set_option maxRecDepth 100000
set_option maxHeartbeats 4000000
namespace My
open PySem L2 PyProof.Rows
/-- repr of a list that is read as plain data; the def is called where nothing else is being shown -/
theorem call_reprL {X : Cx} (hg : X.A.guards = some []) (hu : X.A.units + 64 < cLine) : CallR X (.builtin "repr") (fun xs H Q => ∃ a d, xs = [.ref a] ∧ Dp X.K H (.ref a) d ∧ d.showable = true ∧ d.hasDict = false ∧ d.depth ≤ 60 ∧ d.shown.length ≤ sizeLine ∧ Q (.str d.shown) H) := by
  intro pins s σ H xs us Q I r h
  obtain ⟨a, d, rfl, hd, h1, h2, h3, h4, q⟩ := h
  obtain ⟨u, rfl, ru⟩ := vals1 r
  cases (show u = Value.ref a from ru)
  obtain ⟨as, rd⟩ := Dp.reads I d _ _ hd rfl
  exact repr_of_reads' rd h1 (PyData.noDict_hsm h2) hg (by omega) (fun _ _ e => e) (fun h' u tk hk => ⟨.str _, H, I.kept (t' := tk) hk, ⟨_, rfl⟩, q⟩) h4
/-- a def's promise where nothing is being shown around it -/
structure FnG (P : Program) (w : World) (K : PySem.W.Frag) (mg : Str → Option Value) (base : Heap) (k : Nat) (f : Addr) (fd : FuncData) (ps : List Str) (sp : Sp) : Prop where
  run : ∀ (A : Around) (outer : List Env) (s : Shared) (H : Hp) (args : Args) (us : List Value) (vs : List V) (Q : VK) (E : XK), A.guards = some [] → Room k A → Env0 P w K mg base A outer s H → BindsTo s fd args (ps.zip us) → Vals vs us → sp vs H Q E →
    codeAny (model P w) A (.call (.ref f) args) (CR CX0 outer P w H s Q E) s
theorem okG {P : Program} {w : World} {K : PySem.W.Frag} {mg : Str → Option Value} {base : Heap} {x qual : Str} {st : Stmt} {f : Addr} {fd : FuncData} {N ps : List Str} {k : Nat} {sp : Sp} (F : Fun K x qual st f fd) (S : FnScope N ps (defScope st)) (len : ∀ vs H Q E, sp vs H Q E → vs.length = ps.length)
    (hbody : ∀ (cdv : Value) (A : Around) (outer : List Env) (s : Shared) (H : Hp) (vs : List V) (Q : VK) (E : XK), A.guards = some [] → Room k (A.deeper (envOfC qual (defScope st) s.heap.objs.size f cdv)) → sp vs H Q E →
      ∃ t, PSs (cxOf CX0 P w K mg base N qual (defScope st) f cdv A outer s H E).nox (defBody st) t ∧ t { nx := fun _ H' => Q .non H', rt := Q } (start N vs) H) : FnG P w K mg base (k + 1) f fd ps sp := by
  refine ⟨fun A outer s H args us vs Q E hg => ?_⟩
  obtain ⟨oc, od, kV, doc, pm, an, cdv, ct, osl, rfl, lk, hcd⟩ := F.ex
  intro hr e0 hb r hsp
  have hl := len _ _ _ _ hsp
  have KX : K.In s.heap := e0.mod.kin.keeps fun b o e => (e0.bs b o e).1
  have lim : s.heap.NoLimit := e0.mod.nolimit.keeps fun b o e => (e0.bs b o e).1
  have kinds : ∀ y ∈ ps.zip us, (defScope st).names.lookup y.1 = some .local ∨ ((defScope st).names.lookup y.1 = some .cell ∧ ((cellsFrom (s.heap.objs.size + 1) (defScope st).names []).lookup y.1).isSome = true) := by
    rintro ⟨n, v⟩ hy
    rcases S.par n (List.of_mem_zip hy).1 with q | q
    · exact .inl q
    · exact .inr ⟨q, PySem.W.cellsFrom_some _ _ _ (.inl q)⟩
  refine codeAny_call_function hr.depth (KX _ _ lk) rfl S.co S.gen rfl (PySem.W.codeRec_of KX hcd) (hb _ _ _ _ ?_)
  refine wpAny_newFunctionEnv_cells S.kind kinds fun env he s1 x => ?_
  subst he
  refine ⟨lim.keeps x.toInCall.keep, codeAny_func ?_⟩
  obtain ⟨t, ht0, hq⟩ := hbody cdv A outer s H vs Q E hg (hr.deeper _) hsp
  have ht := ht0.nox
  have I : Inv (cxOf CX0 P w K mg base N qual (defScope st) f cdv A outer s H E) [] (start N vs) H s1 := inv_start S hr.hd e0 hl r x
  refine wpAny_mono (ht.run [] s1 (start N vs) H _ I hq) (fun fl s' hs => ?_) fun e s' hs => hs
  have fin : ∀ {σ' : L2.St} {H' : Hp} {v : V} {u : Value}, Inv (cxOf CX0 P w K mg base N qual (defScope st) f cdv A outer s H E) [] σ' H' s' → RelV v u → Q v H' → CE outer P w H s Q u s' := fun {σ' H' v u} J rv q =>
    ⟨v, H', J.os, J.bare, J.base, J.hok, rv, q⟩
  cases fl with
  | ret u =>
    obtain ⟨v, σ', H', J, rv, q⟩ := hs
    exact fin J rv q
  | next =>
    obtain ⟨σ', H', J, q⟩ := hs
    exact fin (v := V.non) (u := Value.none) J rfl q
  | brk =>
    obtain ⟨σ', H', J, q⟩ := hs
    exact q.elim
  | cont =>
    obtain ⟨σ', H', J, q⟩ := hs
    exact q.elim
/-- the law's call, from such a promise -/
theorem law_callG {P : Program} {w : World} {K : PySem.W.Frag} {mg mb : Str → Option Value} {k : Nat} {fa a : Addr} {fd : FuncData} {x : Str} {sp : Sp} {s1 : Shared} {vs : List Value} {ns : List Int}
    (KX : K.In s1.heap) (hns : s1.heap.Ns mainGlobals mg) (hb : s1.heap.Ns builtinsNs mb) (hbb : ∀ x : Str, x ≠ "__name__" → mb x = bootBuiltins x) (hlim : s1.heap.NoLimit) (hg : s1.gens = #[])
    (ha : s1.heap.get? a = some { cls := .type "list", data := .seq vs.toArray }) (hi : IntsAre vs ns) (hl : ns.length ≤ sizeLine) (hr : Room k callerA)
    (F : ∀ base : Heap, K.In base → base.Ns mainGlobals mg → FnG P w K mg base k fa fd [x] sp) (hbind : ∀ (s : Shared) (u : Value), BindsTo s fd ⟨[u], []⟩ [(x, u)])
    (hsp : ∀ H : Hp, SqL K H a (ns.map V.int) → sp [.ref a] H (fun v _ => v = .bl true) fun _ _ _ => False) :
    codeAny (model P w) callerA (.call (.ref fa) ⟨[.ref a], []⟩) (fun r s' => r = .ok (.ret (.bool true)) ∧ OldK s1.heap s'.heap ∧ s'.os = s1.os ∧ AllBare s'.gens) s1 := by
  have rv := vals_ints hi
  have lenV := hi.length
  have core : ∀ H : Hp, Only H → SqL K H a (ns.map V.int) → HOk P w H s1.heap → (∀ b, H b ≠ none → b = a) → (H a ≠ none → K.lookup a = none) →
      codeAny (model P w) callerA (.call (.ref fa) ⟨[.ref a], []⟩) (fun r s' => r = .ok (.ret (.bool true)) ∧ OldK s1.heap s'.heap ∧ s'.os = s1.os ∧ AllBare s'.gens) s1 := by
    intro H hO hS hok hA hK
    have free : ∀ {b : Addr} {o : Obj} {es : Array DictEntry} {ep : Nat}, s1.heap.get? b = some o → o.data = .dict es ep → H b = none := by
      intro b o es ep e dt
      cases hb' : H b with
      | none => rfl
      | some u =>
        have eb : b = a := hA b (by rw [hb']; simp)
        subst eb
        rw [ha] at e
        cases e
        cases (show Data.seq vs.toArray _ = Data.dict es ep from dt)
    have nsK : ∀ {b : Addr} {m : Str → Option Value}, s1.heap.Ns b m → (hidT s1.heap H).Ns b m := by
      rintro b m ⟨o, es, ep, e, dt, r⟩
      exact ⟨o, es, ep, hidT_get e (free e dt), dt, r⟩
    have hKb : K.In (hidT s1.heap H) := by
      intro b o e
      refine hidT_get (KX b o e) ?_
      cases hb' : H b with
      | none => rfl
      | some u =>
        have eb : b = a := hA b (by rw [hb']; simp)
        subst eb
        rw [hK (by rw [hb']; simp)] at e
        cases e
    have hM : Mod K mg (hidT s1.heap H) := ⟨hKb, nsK hns, ⟨mb, nsK hb, hbb⟩, let ⟨mc, h1, h2⟩ := hlim; ⟨mc, nsK h1, h2⟩⟩
    have e0 : Env0 P w K mg (hidT s1.heap H) callerA [] s1 H :=
      ⟨rfl, hM, fun b o e => of_hidT e, Nat.le_of_eq (hidT_size _ _), trivial, fun b hb => absurd (show b ∈ ([] : List Addr) from hb) (by simp), hok, .of_eq hg⟩
    refine codeAny_mono ((F _ hKb (nsK hns)).run callerA [] s1 H ⟨[.ref a], []⟩ [.ref a] [.ref a] _ _ rfl hr e0 (hbind s1 (.ref a)) (.cons rfl .nil) (hsp H hS)) fun r s' h => ?_
    cases r with
    | error e => exact False.elim h
    | ok fl =>
      cases fl with
      | next => exact False.elim h
      | brk => exact False.elim h
      | cont => exact False.elim h
      | ret u =>
        obtain ⟨v, H', os, bare, un, hok', r', q⟩ := h
        cases (show v = .bl true from q)
        obtain rfl : u = Value.bool true := r'
        refine ⟨rfl, OldK.of_keep fun b o e => ?_, os, bare⟩
        cases hb' : H b with
        | none => exact un.keep b o e hb' (by intro z; exact absurd (show b ∈ ([] : List Addr) from z) (by simp)) (by simp)
        | some u =>
          rcases hO b with z | ⟨ob, xs, z⟩
          · rw [hb'] at z; cases z
          · obtain ⟨e1, _⟩ := hok b _ z
            obtain ⟨e2, _⟩ := hok' b _ (un.frzs b ob _ z)
            rw [e] at e1
            cases e1
            exact e2
  cases hk : K.lookup a with
  | some o =>
    have e := KX a o hk
    rw [ha] at e
    cases e
    exact core (fun _ => none) (fun _ => .inl rfl) (.inr ⟨_, vs.toArray, _, hk, rfl, rfl, rfl, by rw [List.size_toArray, lenV]; exact hl, by simpa using rv⟩) (fun b u z => by cases (show (none : Option HO) = some u from z)) (fun b z => absurd rfl z) fun z => absurd rfl z
  | none =>
    refine core (fun b => if b = a then some (.frz { cls := .type "list", data := .seq vs.toArray } (.lst (ns.map V.int))) else none) (fun b => ?_) (.inl (.inr ⟨{ cls := .type "list", data := .seq vs.toArray }, if_pos rfl⟩)) (fun b u z => ?_) (fun b z => ?_) fun _ => hk
    · by_cases eb : b = a
      · exact .inr ⟨_, _, if_pos eb⟩
      · exact .inl (if_neg eb)
    · by_cases eb : b = a
      · cases ((if_pos eb).symm.trans z)
        subst eb
        exact ⟨ha, by rw [List.length_map]; exact hl, vs, _, rv, ha⟩
      · cases ((if_neg eb).symm.trans z)
    · by_cases eb : b = a
      · exact eb
      · exact absurd (if_neg eb) z
theorem walkG {l : PySem.W.OpenLaw} {n k : Nat} {q : Program} {loose : List Str} {XP : (Str → Option Value) → Heap → Prop} {YP : World → Heap → Prop} {d : DefRec} {K : Params → PySem.W.Frag} {sp : World → Sp} {x : Str}
    (hn : l.most = some n) (hn2 : n ≤ sizeLine) (hdf : d.params.defaults = []) (hr : Room k callerA) (hY : ∀ (w : World) (h : Heap), YP w h → (K w.params).In h)
    (F : ∀ (w : World) (mg : Str → Option Value) (fa : Addr) (h : Heap), (K w.params).In h → h.Ns mainGlobals mg → mg d.name = some (.ref fa) →
      ∃ fd : FuncData, (∀ (s : Shared) (u : Value), BindsTo s fd ⟨[u], []⟩ [(x, u)]) ∧ ∀ base : Heap, (K w.params).In base → base.Ns mainGlobals mg → FnG l.prog w (K w.params) mg base k fa fd [x] (sp w))
    (hsp : ∀ (w : World) (H : Hp) (a : Addr) (ns : List Int), ns.length ≤ n → SqL (K w.params) H a (ns.map V.int) → sp w [.ref a] H (fun v _ => v = .bl true) fun _ _ _ => False) :
    PySem.W.WalkO q loose XP YP l.row.toRowW d [] (fun f vs => PySem.call f vs) := by
  refine Att.attach_call hn hdf fun w s0 s1 mg mb fa o pm cd doc a vs ns G Y ho hd hcd hmg hobj hints hlen hg => ?_
  have KX := hY w _ Y
  obtain ⟨fd, hb, hF⟩ := F w mg fa _ KX G.T.g hmg
  exact law_callG KX G.T.g G.T.b G.T.builtins G.T.nolimit hg hobj hints (Nat.le_trans hlen hn2) hr hF hb (fun H hS => hsp w H a ns hlen hS)
end My

set_option Elab.async false
set_option linter.all false
set_option maxRecDepth 100000
set_option maxHeartbeats 4000000
namespace My
open PySem PySem.W
open PySem.Sem (wp)
section
variable {prog : Program} {w : World} {z TI TO i1 i2 : Addr} {fp1 fp2 : List Addr} {n1 n2 : Nat} {P1 P2 : Nat → Value → Prop} {St1 St2 : Nat → Heap → Prop}
/-- one turn of a zip whose first pair is still held by somebody -/
theorem held_item {A : Around} {E : Value → Shared → Prop} {s : Shared} {i : Nat} {T : Addr} {f : Bool} {oT : Obj} {Q : Option Value → Shared → Prop} (S : ZipSep2 z TI TO i1 i2 fp1 fp2) (D1 : ∀ A : Around, A.handled = none → Draws prog w A i1 fp1 n1 P1 St1) (D2 : ∀ A : Around, A.handled = none → Draws prog w A i2 fp2 n2 P2 St2) (hA : A.handled = none)
    (hz : IsZipHeld s.heap z TI TO T f) (hT : s.heap.get? T = some oT) (hTI : IsTupOf2 s.heap TI (.ref i1) (.ref i2)) (st1 : St1 i s.heap) (st2 : St2 i s.heap) (hlt1 : i < n1) (hlt2 : i < n2)
    (hQ : ∀ x1 x2 h' tk, P1 i x1 → P2 i x2 → IsZipHeld h' z TI TO T true → St1 (i + 1) h' → St2 (i + 1) h' → IsTupOf2 h' s.heap.objs.size x1 x2 → h'.objs.size = s.heap.objs.size + 1 →
      (∀ c o, c ≠ z → c ≠ i1 → c ≠ i2 → s.heap.get? c = some o → h'.get? c = some o) → Q (some (.ref s.heap.objs.size)) { s with heap := h', toks := tk }) :
    wpAny (model prog w) A (pyNext (.ref z)) Q E s := by
  have hTy : s.TypeIs (.ref z) "zip" := ⟨_, hz, rfl⟩
  unfold pyNext
  refine wpAny_bind (wpAny_attempt (wpAny_callSpecial?_slot (name := Str.ofString "__next__") hTy F.slot_zip_next (wpAny_call_entry F.slot_zip_next hTy F.entry_zip_next ?_ (F.args_zip_next_1 _))))
  have d1 := D1 A.in1 hA
  have d2 := D2 A.in1 hA
  obtain ⟨hp, g, d, tk0, os⟩ := s
  show wpAny _ _ (field (.ref z) 2 >>= _) _ _ _
  refine wpAny_bind (wpAny_field hz rfl (x := .bool false) rfl ?_)
  show wpAny _ _ (field (.ref z) 3 >>= _) _ _ _
  refine wpAny_bind (wpAny_field hz rfl (x := .ref TI) rfl (wpAny_bind (wpAny_seqItems hTI rfl ?_)))
  show wpAny _ _ (Builtin.SmallTypes.ownedTupleIsFree (.ref z) >>= _) _ _ _
  refine wpAny_bind (wpAny_tupleHeld_zip (f := f) hz hT fun g0 hz0 hs0 => ?_)
  replace hs0 : Heap.SameBut z hp g0 := hs0
  simp only [Bool.false_eq_true, if_false]
  refine wpAny_bind ?_
  rw [← Array.forIn_toList]
  simp only [List.forIn_cons, List.forIn_nil]
  refine wpAny_bind (wpAny_bind (wpAny_holding ?_))
  show wpAny _ _ (Builtin.SmallTypes.nextOf (.ref i1) >>= _) _ _ ⟨g0, g, d, tk0, os⟩
  refine wpAny_bind (d1.item i ⟨g0, g, d, tk0, os⟩ _ _ hlt1 (d1.over st1 hs0 S.zf1) fun x1 p1 tk1 hx1 sn1 hp1 => wpAny_pure (wpAny_pure ?_))
  replace hp1 : Heap.SameBut i1 g0 p1 := hp1
  refine wpAny_bind (wpAny_bind (wpAny_holding ?_))
  show wpAny _ _ (Builtin.SmallTypes.nextOf (.ref i2) >>= _) _ _ ⟨p1, g, d, tk1, os⟩
  refine wpAny_bind (d2.item i ⟨p1, g, d, tk1, os⟩ _ _ hlt2 (d2.over (d2.over st2 hs0 S.zf2) hp1 S.sep1_2) fun x2 p2 tk2 hx2 sn2 hp2 => wpAny_pure (wpAny_pure (wpAny_pure ?_)))
  replace hp2 : Heap.SameBut i2 p1 p2 := hp2
  show wpAny _ _ (newTuple [x1, x2] >>= _) _ _ ⟨p2, g, d, tk2, os⟩
  refine wpAny_bind (wpAny_newTuple (wpAny_pure ⟨_, rfl, wpAny_pure ?_⟩))
  have hsz : p2.objs.size = hp.objs.size := by rw [hp2.1, hp1.1, hs0.1]
  show Q (some (.ref p2.objs.size)) ⟨p2.push { cls := .type "tuple", data := .seq #[x1, x2] }, g, d, tk2, os⟩
  have up : ∀ c o, p2.get? c = some o → (p2.push { cls := .type "tuple", data := .seq #[x1, x2] }).get? c = some o := fun c o e => Heap.get?_push_of_some _ e
  have hpair : IsTupOf2 (p2.push { cls := .type "tuple", data := .seq #[x1, x2] }) p2.objs.size x1 x2 := Heap.get?_push_size _ rfl
  have hnew : (p2.push { cls := .type "tuple", data := .seq #[x1, x2] }).objs.size = p2.objs.size + 1 := Heap.size_push ..
  have k1 := hQ x1 x2 (p2.push { cls := .type "tuple", data := .seq #[x1, x2] }) tk2 hx1 hx2 (up _ _ (hp2.extBut _ _ S.zi2 (hp1.extBut _ _ S.zi1 hz0)))
    (d1.frame _ _ _ (d1.over sn1 hp2 S.sep2_1) fun b _ o e => up b o e) (d2.frame _ _ _ sn2 fun b _ o e => up b o e)
  rw [hsz] at hpair hnew ⊢
  exact k1 hpair hnew fun c o c1 c2 c3 e => up c o (hp2.extBut _ _ c3 (hp1.extBut _ _ c2 (hs0.extBut _ _ c1 e)))
theorem held_end {A : Around} {E : Value → Shared → Prop} {s : Shared} {i : Nat} {T : Addr} {f : Bool} {oT : Obj} {Q : Option Value → Shared → Prop} (S : ZipSep2 z TI TO i1 i2 fp1 fp2) (D1 : ∀ A : Around, A.handled = none → Draws prog w A i1 fp1 n1 P1 St1) (D2 : ∀ A : Around, A.handled = none → Draws prog w A i2 fp2 n2 P2 St2) (hA : A.handled = none)
    (hz : IsZipHeld s.heap z TI TO T f) (hT : s.heap.get? T = some oT) (hTI : IsTupOf2 s.heap TI (.ref i1) (.ref i2)) (st1 : St1 i s.heap) (st2 : St2 i s.heap) (hle1 : i ≤ n1) (hle2 : i ≤ n2) (hend : i = n1 ∨ i = n2)
    (hQ : ∀ h' tk, (∀ c o, c ≠ z → c ≠ i1 → c ≠ i2 → s.heap.get? c = some o → h'.get? c = some o) → Q none { s with heap := h', toks := tk }) :
    wpAny (model prog w) A (pyNext (.ref z)) Q E s := by
  have hTy : s.TypeIs (.ref z) "zip" := ⟨_, hz, rfl⟩
  have d1 := D1 A.in1 hA
  have d2 := D2 A.in1 hA
  unfold pyNext
  obtain ⟨hp, g, d, tk0, os⟩ := s
  have stop : ∀ (q : Heap) (tk : Tok) (e : Addr), (∀ c o, c ≠ z → c ≠ i1 → c ≠ i2 → hp.get? c = some o → q.get? c = some o) → (∃ o, q.get? e = some o ∧ o.cls = .type "StopIteration") →
      wpAny (model prog w) A (isInstance (.ref e) (.type "StopIteration") >>= fun b => if b = true then pure none else throw (.ref e)) Q E ⟨q, g, d, tk, os⟩ := by
    rintro q tk e hk ⟨o, ho, hc⟩
    exact wpAny_bind (wpAny_isInstance (T := "StopIteration") (b := true) ⟨o, ho, hc⟩ isSubtype_stop (wpAny_pure (hQ q tk hk)))
  refine wpAny_bind (wpAny_attempt (wpAny_callSpecial?_slot (name := Str.ofString "__next__") hTy F.slot_zip_next (wpAny_call_entry F.slot_zip_next hTy F.entry_zip_next ?_ (F.args_zip_next_1 _))))
  show wpAny _ _ (field (.ref z) 2 >>= _) _ _ _
  refine wpAny_bind (wpAny_field hz rfl (x := .bool false) rfl ?_)
  show wpAny _ _ (field (.ref z) 3 >>= _) _ _ _
  refine wpAny_bind (wpAny_field hz rfl (x := .ref TI) rfl (wpAny_bind (wpAny_seqItems hTI rfl ?_)))
  show wpAny _ _ (Builtin.SmallTypes.ownedTupleIsFree (.ref z) >>= _) _ _ _
  refine wpAny_bind (wpAny_tupleHeld_zip (f := f) hz hT fun g0 hz0 hs0 => ?_)
  replace hs0 : Heap.SameBut z hp g0 := hs0
  simp only [Bool.false_eq_true, if_false]
  refine wpAny_bind ?_
  rw [← Array.forIn_toList]
  simp only [List.forIn_cons, List.forIn_nil]
  by_cases h1 : i < n1
  · refine wpAny_bind (wpAny_bind (wpAny_holding ?_))
    show wpAny _ _ (Builtin.SmallTypes.nextOf (.ref i1) >>= _) _ _ ⟨g0, g, d, tk0, os⟩
    refine wpAny_bind (d1.item i ⟨g0, g, d, tk0, os⟩ _ _ h1 (d1.over st1 hs0 S.zf1) fun x1 p1 tk1 hx1 sn1 hp1 => wpAny_pure (wpAny_pure ?_))
    replace hp1 : Heap.SameBut i1 g0 p1 := hp1
    have h2 : i = n2 := by omega
    refine wpAny_bind (wpAny_bind (wpAny_holding ?_))
    show wpAny _ _ (Builtin.SmallTypes.nextOf (.ref i2) >>= _) _ _ ⟨p1, g, d, tk1, os⟩
    refine wpAny_bind (d2.done ⟨p1, g, d, tk1, os⟩ _ _ (by rw [← h2]; exact d2.over (d2.over st2 hs0 S.zf2) hp1 S.sep1_2) fun q e hq he => ?_)
    exact stop q tk1 e (fun c o c1 c2 c3 x => hq _ _ c3 (hp1.extBut _ _ c2 (hs0.extBut _ _ c1 x))) he
  · have h2 : i = n1 := by omega
    refine wpAny_bind (wpAny_bind (wpAny_holding ?_))
    show wpAny _ _ (Builtin.SmallTypes.nextOf (.ref i1) >>= _) _ _ ⟨g0, g, d, tk0, os⟩
    refine wpAny_bind (d1.done ⟨g0, g, d, tk0, os⟩ _ _ (by rw [← h2]; exact d1.over st1 hs0 S.zf1) fun q e hq he => ?_)
    exact stop q tk0 e (fun c o c1 c2 c3 x => hq _ _ c2 (hs0.extBut _ _ c1 x)) he
theorem big {a b N : Nat} (h1 : a < N) (h2 : N ≤ b) : b ≠ a := Nat.ne_of_gt (Nat.lt_of_lt_of_le h1 h2)
/-- how the zip itself stands: no pair is out, or the first one is still held -/
def ZAt (z TI TO N0 : Nat) (i : Nat) (h : Heap) : Prop := (i = 0 ∧ IsZip h z TI TO .none ∧ ∃ a b, IsTupOf2 h TO a b) ∨ (∃ T f oT, N0 ≤ T ∧ h.get? T = some oT ∧ IsZipHeld h z TI TO T f)
def Made (P1 P2 : Nat → Value → Prop) (N0 : Nat) (h : Heap) (acc : Array Value) : Prop := (∀ j v, acc[j]? = some v → ∃ b x1 x2, v = .ref b ∧ N0 ≤ b ∧ P1 j x1 ∧ P2 j x2 ∧ IsTupOf2 h b x1 x2) ∧ ∀ (j k : Nat) (b c : Addr), j < k → acc[j]? = some (Value.ref b) → acc[k]? = some (Value.ref c) → b < c
theorem ext_zip {A : Around} {R : Result → Shared → Prop} (S : ZipSep2 z TI TO i1 i2 fp1 fp2) (D1 : ∀ A : Around, A.handled = none → Draws prog w A i1 fp1 n1 P1 St1) (D2 : ∀ A : Around, A.handled = none → Draws prog w A i2 fp2 n2 P2 St2) (hA : A.handled = none) (hn : min n1 n2 ≤ sizeLine)
    {L N0 : Addr} (Lz : L ≠ z) (LTI : L ≠ TI) (LTO : L ≠ TO) (L1 : L ∉ fp1) (L2 : L ∉ fp2) (zN : z < N0) (TIN : TI < N0) (TON : TO < N0) (i1N : i1 < N0) (i2N : i2 < N0) (LN : L < N0) (res : Value) :
    ∀ (k i : Nat) (s : Shared) (acc : Array Value) (c : Nat), min n1 n2 - i = k → i ≤ min n1 n2 → N0 ≤ s.heap.objs.size → ZAt z TI TO N0 i s.heap → IsTupOf2 s.heap TI (.ref i1) (.ref i2) → St1 i s.heap → St2 i s.heap →
    s.heap.get? L = some { cls := .type "list", dict := none, data := .seq acc c, slots := #[] } → acc.size = i → Made P1 P2 N0 s.heap acc →
    (∀ h' tk acc' c', (∀ b o, b < N0 → b ≠ z → b ≠ TO → b ≠ i1 → b ≠ i2 → b ≠ L → s.heap.get? b = some o → h'.get? b = some o) → h'.get? L = some { cls := .type "list", dict := none, data := .seq acc' c', slots := #[] } →
      acc'.size = min n1 n2 → Made P1 P2 N0 h' acc' → R (.ok (.ret res)) { s with heap := h', toks := tk }) →
    codeAny (model prog w) A (.builtin "list.extend.loop" ⟨[.ref L, .ref z, res], []⟩) R s := by
  have Li1 : L ≠ i1 := fun e => L1 (e ▸ S.mem1)
  have Li2 : L ≠ i2 := fun e => L2 (e ▸ S.mem2)
  intro k
  induction k with
  | zero =>
    intro i s acc c hk hi hN hZ hTI st1 st2 hL hsz hM hR
    have hin : i = min n1 n2 := by omega
    refine codeAny_builtin F.entry_extend_loop ?_
    rw [Around.under_plainId F.plain_extend_loop _]
    show wpAny _ A.in1 (pyNext (.ref z) >>= _) _ _ s
    have go : ∀ h' tk, (∀ c o, c ≠ z → c ≠ TO → c ≠ i1 → c ≠ i2 → s.heap.get? c = some o → h'.get? c = some o) → R (.ok (.ret res)) { s with heap := h', toks := tk } := fun h' tk hk' => by
      refine hR h' tk acc c (fun b o _ b1 b2 b3 b4 _ e => hk' b o b1 b2 b3 b4 e) (hk' _ _ Lz LTO Li1 Li2 hL) (by omega) ⟨fun j v e => ?_, hM.2⟩
      obtain ⟨b, x1, x2, ev, hb, p1, p2, ht⟩ := hM.1 j v e
      exact ⟨b, x1, x2, ev, hb, p1, p2, hk' _ _ (big zN hb) (big TON hb) (big i1N hb) (big i2N hb) ht⟩
    rcases hZ with ⟨e0, hz, a, b, hTO⟩ | ⟨T, f, oT, hTN, hT, hz⟩
    · refine wpAny_bind (wpAny_pyNext_zipD2_end S (D1 A.in1.in1 hA) (D2 A.in1.in1 hA) hz hTI hTO st1 st2 (by omega) (by omega) (by omega) fun h' tk hk' => wpAny_pure (go h' tk hk'))
    · refine wpAny_bind (held_end (A := A.in1) S D1 D2 hA hz hT hTI st1 st2 (by omega) (by omega) (by omega) fun h' tk hk' => wpAny_pure (go h' tk fun c o c1 _ c3 c4 e => hk' c o c1 c3 c4 e))
  | succ k ih =>
    intro i s acc c hk hi hN hZ hTI st1 st2 hL hsz hM hR
    have hlt : i < min n1 n2 := by omega
    refine codeAny_builtin F.entry_extend_loop ?_
    rw [Around.under_plainId F.plain_extend_loop _]
    show wpAny _ A.in1 (pyNext (.ref z) >>= _) _ _ s
    have go : ∀ x1 x2 h' tk, P1 i x1 → P2 i x2 → (∃ T f oT, N0 ≤ T ∧ h'.get? T = some oT ∧ IsZipHeld h' z TI TO T f) → St1 (i + 1) h' → St2 (i + 1) h' → IsTupOf2 h' s.heap.objs.size x1 x2 → h'.objs.size = s.heap.objs.size + 1 →
        (∀ c o, c ≠ z → c ≠ TO → c ≠ i1 → c ≠ i2 → s.heap.get? c = some o → h'.get? c = some o) →
        wpAny (model prog w) A.in1 (updateSeq L (·.push (.ref s.heap.objs.size)) >>= fun _ => again (.builtin "list.extend.loop" ⟨[.ref L, .ref z, res], []⟩)) (fun fin s' => match fin with | .done f => R (.ok f) s' | .again c' => c'.quiet = true ∧ codeAny (model prog w) A c' R s') (fun e s' => R (.error e) s') { s with heap := h', toks := tk } := by
      intro x1 x2 h' tk q1 q2 hz' sn1 sn2 hpair hs' hk'
      have hL' := hk' _ _ Lz LTO Li1 Li2 hL
      refine wpAny_bind (wpAny_updateSeq (s := { s with heap := h', toks := tk }) hL' rfl (wpAny_pure ⟨plainId_quiet F.plain_extend_loop _, ?_⟩) (by rw [hsz]; omega) (by show (acc.push _).size ≤ sizeLine + 1; rw [Array.size_push, hsz]; omega))
      have up : ∀ b o, b ≠ L → h'.get? b = some o → (h'.update L (Obj.mapSeq (·.push (.ref s.heap.objs.size)))).get? b = some o := fun b o hb e => (Heap.get?_update_other _ _ (Ne.symm hb)).trans e
      have hTI' := up _ _ (Ne.symm LTI) (hk' _ _ S.TIz S.TITO S.TIi1 S.TIi2 hTI)
      refine ih (i + 1) { s with heap := h'.update L (Obj.mapSeq (·.push (.ref s.heap.objs.size))), toks := tk } (acc.push (.ref s.heap.objs.size)) _ (by omega) hlt ?_ (.inr ?_) hTI' ?_ ?_ (Heap.get?_update_self _ hL' rfl) (by rw [Array.size_push, hsz]) ?_ ?_
      · show N0 ≤ (h'.update L _).objs.size
        rw [Heap.size_update, hs']; exact Nat.le_succ_of_le hN
      · obtain ⟨T, f, oT, hTN, hT, hz⟩ := hz'
        exact ⟨T, f, oT, hTN, up _ _ (big LN hTN) hT, up _ _ (Ne.symm Lz) hz⟩
      · exact (D1 A.in1 hA).frame _ _ _ sn1 fun b hb o e => up b o (fun q => L1 (q ▸ hb)) e
      · exact (D2 A.in1 hA).frame _ _ _ sn2 fun b hb o e => up b o (fun q => L2 (q ▸ hb)) e
      · refine ⟨fun j v e => ?_, fun j k b d hjk e1 e2 => ?_⟩
        rotate_left
        · rw [Array.getElem?_push] at e1 e2
          split at e1
          · rename_i ej
            have hk2 : k < acc.size := by
              split at e2
              · rename_i ek; omega
              · exact (Array.getElem?_eq_some_iff.mp e2).1
            omega
          · split at e2
            · rename_i ek
              cases e2
              obtain ⟨b', x1', x2', ev, hb, p1, p2, ht⟩ := hM.1 j _ e1
              cases ev
              exact Heap.lt_size ht
            · exact hM.2 j k b d hjk e1 e2
        rw [Array.getElem?_push] at e
        split at e
        · rename_i ej
          cases e
          rw [hsz] at ej
          subst ej
          exact ⟨_, x1, x2, rfl, hN, q1, q2, up _ _ (big LN hN) hpair⟩
        · obtain ⟨b, y1, y2, ev, hb, p1, p2, ht⟩ := hM.1 j v e
          exact ⟨b, y1, y2, ev, hb, p1, p2, up _ _ (big LN hb) (hk' _ _ (big zN hb) (big TON hb) (big i1N hb) (big i2N hb) ht)⟩
      · intro h'' tk'' acc' c' hk'' hL'' hsz'' hM''
        exact hR h'' tk'' acc' c' (fun b o hb b1 b2 b3 b4 b5 e => hk'' b o hb b1 b2 b3 b4 b5 (up _ _ b5 (hk' _ _ b1 b2 b3 b4 e))) hL'' hsz'' hM''
    rcases hZ with ⟨e0, hz, a, b, hTO⟩ | ⟨T, f, oT, hTN, hT, hz⟩
    · exact wpAny_bind (wpAny_pyNext_zipD2_item S (D1 A.in1.in1 hA) (D2 A.in1.in1 hA) hz hTI hTO st1 st2 (by omega) (by omega) fun x1 x2 h' tk q1 q2 hz' _ sn1 sn2 hp hs' hk' => go x1 x2 h' tk q1 q2 ⟨_, false, _, hN, hp, hz'⟩ sn1 sn2 hp hs' hk')
    · exact wpAny_bind (held_item (A := A.in1) S D1 D2 hA hz hT hTI st1 st2 (by omega) (by omega) fun x1 x2 h' tk q1 q2 hz' sn1 sn2 hp hs' hk' => go x1 x2 h' tk q1 q2 ⟨T, true, oT, hTN, hk' _ _ (big zN hTN) (big i1N hTN) (big i2N hTN) hT, hz'⟩ sn1 sn2 hp hs' fun c o c1 _ c3 c4 e => hk' c o c1 c3 c4 e)
end
end My

set_option Elab.async false
set_option linter.all false
set_option maxRecDepth 100000
set_option maxHeartbeats 4000000
namespace My
open PySem PySem.W
open PySem.Sem (wp)
theorem zip_no_len : typeLookup (.type "zip") "__len__" = pure none := by rw [typeLookup_type, builtinLookup_eq_fast]; kernel_rfl
theorem zip_no_hint : typeLookup (.type "zip") "__length_hint__" = pure none := by rw [typeLookup_type, builtinLookup_eq_fast]; kernel_rfl
section
variable {prog : Program} {w : World} {z TI TO i1 i2 : Addr} {fp1 fp2 : List Addr} {n1 n2 : Nat} {P1 P2 : Nat → Value → Prop} {St1 St2 : Nat → Heap → Prop}
/-- list(z) of a zip of which nothing was drawn yet -/
theorem list_zip {A : Around} {E : Value → Shared → Prop} {s : Shared} {Q : Value → Shared → Prop} (S : ZipSep2 z TI TO i1 i2 fp1 fp2) (D1 : ∀ A : Around, A.handled = none → Draws prog w A i1 fp1 n1 P1 St1) (D2 : ∀ A : Around, A.handled = none → Draws prog w A i2 fp2 n2 P2 St2) (hA : A.handled = none) (hn : min n1 n2 ≤ sizeLine)
    {a b : Value} (hz : IsZip s.heap z TI TO .none) (hTI : IsTupOf2 s.heap TI (.ref i1) (.ref i2)) (hTO : IsTupOf2 s.heap TO a b) (st1 : St1 0 s.heap) (st2 : St2 0 s.heap) (f1 : ∀ c ∈ fp1, c < s.heap.objs.size) (f2 : ∀ c ∈ fp2, c < s.heap.objs.size)
    (hQ : ∀ h' tk acc c', (∀ b o, b < s.heap.objs.size → b ≠ z → b ≠ TO → b ≠ i1 → b ≠ i2 → s.heap.get? b = some o → h'.get? b = some o) → h'.get? s.heap.objs.size = some { cls := .type "list", dict := none, data := .seq acc c', slots := #[] } →
      acc.size = min n1 n2 → Made P1 P2 (s.heap.objs.size + 1) h' acc → Q (.ref s.heap.objs.size) { s with heap := h', toks := tk }) :
    wpAny (model prog w) A (call (.type "list") [.ref z]) Q E s := by
  refine callType_codes (Q₁ := fun obj s₁ => obj = .ref s.heap.objs.size ∧ s₁ = { s with heap := s.heap.push { cls := .type "list", data := .seq #[] } }) PySem.F.called_list (PySem.F.typeCall_list_1 _) PySem.F.entry_list_init
    (code_list_new _ ⟨rfl, rfl⟩) fun obj s₁ h₁ => ?_
  obtain ⟨rfl, rfl⟩ := h₁
  have zN : z < s.heap.objs.size := Heap.lt_size hz
  have TIN : TI < s.heap.objs.size := Heap.lt_size hTI
  have TON : TO < s.heap.objs.size := Heap.lt_size hTO
  have i1N := f1 _ S.mem1
  have i2N := f2 _ S.mem2
  generalize hL : s.heap.objs.size = L at *
  have hS : (s.heap.push { cls := .type "list", data := .seq #[] }).get? L = some { cls := .type "list", data := .seq #[] } := by rw [← hL]; exact Heap.get?_push_size _ rfl
  have hS1 : (s.heap.push { cls := .type "list", data := .seq #[] }).objs.size = L + 1 := by rw [Heap.size_push, hL]
  refine ⟨⟨_, hS, rfl⟩, PySem.F.args_list_init_2 _ _, ?_⟩
  have key : ∀ (h : Heap) (c₁ : Nat) (tk : Tok), h.objs.size = L + 1 → (∀ b o, b ≠ L → s.heap.get? b = some o → h.get? b = some o) → h.get? L = some { cls := .type "list", data := .seq #[] c₁ } →
      codeAny (model prog w) A.in1 (.builtin "list.extend.loop" ⟨[.ref L, .ref z, .none], []⟩) (wants (fun r s₂ => r = Value.none ∧ Q (.ref L) s₂) E) { s with heap := h, toks := tk } := by
    intro h c₁ tk hsz hk hS₁
    have ne : ∀ {c : Addr}, c < L → c ≠ L := fun q => Nat.ne_of_lt q
    refine ext_zip (A := A.in1) (N0 := L + 1) S D1 D2 hA hn (Nat.ne_of_gt zN) (Nat.ne_of_gt TIN) (Nat.ne_of_gt TON) (fun q => Nat.lt_irrefl _ (f1 _ q)) (fun q => Nat.lt_irrefl _ (f2 _ q)) (Nat.lt_succ_of_lt zN) (Nat.lt_succ_of_lt TIN) (Nat.lt_succ_of_lt TON) (Nat.lt_succ_of_lt i1N) (Nat.lt_succ_of_lt i2N) (Nat.lt_succ_self L) .none
      (min n1 n2) 0 { s with heap := h, toks := tk } #[] c₁ rfl (Nat.zero_le _) (Nat.le_of_eq hsz.symm) (.inl ⟨rfl, hk _ _ (ne zN) hz, a, b, hk _ _ (ne TON) hTO⟩) (hk _ _ (ne TIN) hTI)
      ((D1 A hA).frame _ _ _ st1 fun c hc o e => hk c o (ne (f1 c hc)) e) ((D2 A hA).frame _ _ _ st2 fun c hc o e => hk c o (ne (f2 c hc)) e) hS₁ rfl ⟨fun j v e => by simp at e, fun j k b d _ e _ => by simp at e⟩ ?_
    intro h' tk' acc' c' hk' hL' hsz' hM'
    exact ⟨rfl, hQ h' tk' acc' c' (fun b o hb b1 b2 b3 b4 e => hk' b o (Nat.lt_succ_of_lt hb) b1 b2 b3 b4 (ne hb) (hk _ _ (ne hb) e)) hL' hsz' hM'⟩
  show wpAny _ _ (do let old ← Builtin.List.listItems (.ref L); Builtin.List.listUpdate (.ref L) (fun _ => #[]); letGo old.toList.reverse; Builtin.List.listExtendWith (.ref L) (.ref z) .none) _ _ _
  refine wpAny_bind ?_
  unfold Builtin.List.listItems
  refine wpAny_bind (wpAny_seqItems hS rfl (wpAny_pure ?_))
  show wpAny _ _ (updateSeq L (fun _ => #[]) >>= fun _ => letGo (#[] : Array Value).toList.reverse >>= fun _ => Builtin.List.listExtendWith (.ref L) (.ref z) .none) _ _ _
  refine wpAny_bind (wpAny_updateSeq hS rfl (wpAny_bind (wpAny_letGo ?_)))
  have u1 := Heap.get?_update_self (Obj.mapSeq (fun _ => (#[] : Array Value))) hS rfl
  have k1 : ∀ b o, b ≠ L → s.heap.get? b = some o → ((s.heap.push { cls := .type "list", data := .seq #[] }).update L (Obj.mapSeq (fun _ => (#[] : Array Value)))).get? b = some o :=
    fun b o hb e => (Heap.get?_update_other _ _ (Ne.symm hb)).trans (Heap.get?_push_of_some _ e)
  have z1 : ((s.heap.push { cls := .type "list", data := .seq #[] }).update L (Obj.mapSeq (fun _ => (#[] : Array Value)))).objs.size = L + 1 := by rw [Heap.size_update, hS1]
  generalize ((s.heap.push { cls := .type "list", data := .seq #[] }).update L (Obj.mapSeq (fun _ => (#[] : Array Value)))) = g1 at u1 k1 z1 ⊢
  have hT : ∀ (h : Heap) (tk : Tok), (∀ b o, b ≠ L → s.heap.get? b = some o → h.get? b = some o) → Shared.TypeIs { s with heap := h, toks := tk } (.ref z) "zip" := fun h tk hk => ⟨_, hk _ _ (Nat.ne_of_lt zN) hz, rfl⟩
  unfold Builtin.List.listExtendWith
  refine wpAny_bind (wpAny_typeOf (hT g1 s.toks k1) ?_)
  have e1 : Builtin.List.listSameRef (.ref L) (.ref z) = false := by simp [Builtin.List.listSameRef, Nat.ne_of_gt zN]
  have e2 : (Value.type "zip" == Value.type "list") = false := by decide
  have e3 : (Value.type "zip" == Value.type "tuple") = false := by decide
  simp only [e1, e2, e3, Bool.or_false, Bool.false_eq_true, if_false]
  refine wpAny_bind (wpAny_pyIter_zip (k1 _ _ (Nat.ne_of_lt zN) hz) ?_)
  refine wpAny_bind (wpAny_holding ?_)
  unfold Builtin.List.listLengthHint
  refine wpAny_bind (wpAny_specialOf (hT g1 s.toks k1) zip_no_len ?_)
  show wpAny _ _ (specialOf (Value.ref z) (Str.ofString "__length_hint__") >>= _) _ _ _
  refine wpAny_bind (wpAny_specialOf (hT g1 s.toks k1) zip_no_hint (wpAny_pure ?_))
  show wpAny _ _ (rule "list.extend.makes-room" >>= fun _ => Builtin.List.listTouch (.ref L) >>= fun _ => again (.builtin "list.extend.loop" ⟨[.ref L, .ref z, .none], []⟩)) _ _ _
  refine wpAny_bind (wpAny_rule (wpAny_bind ?_))
  show wpAny _ _ (updateSeq L (·.push .none) >>= fun _ => updateSeq L (·.pop)) _ _ _
  refine wpAny_bind (wpAny_updateSeq u1 rfl ?_)
  have u2 := Heap.get?_update_self (Obj.mapSeq (·.push Value.none)) u1 rfl
  refine wpAny_updateSeq (hz := by seq_fits) u2 rfl ?_
  have u3 := Heap.get?_update_self (Obj.mapSeq (·.pop)) u2 rfl
  exact wpAny_pure ⟨plainId_quiet F.plain_extend_loop _, key _ _ _ (by rw [Heap.size_update, Heap.size_update, z1]) (fun b o hb e => (Heap.get?_update_other _ _ (Ne.symm hb)).trans ((Heap.get?_update_other _ _ (Ne.symm hb)).trans (k1 b o hb e))) u3⟩
end
end My

set_option Elab.async false
set_option linter.all false
set_option maxRecDepth 100000
set_option maxHeartbeats 4000000
namespace My
open PySem PySem.W PySem.Spec PyProof.Rows L2
def putT (H : Hp) : List Addr → List V → List V → Hp
  | t :: ts, x :: xs, y :: ys => upd (putT H ts xs ys) t (.tup [x, y])
  | _, _, _ => H
theorem putT_old {H : Hp} {b : Addr} : ∀ {ts : List Addr} {xs ys : List V}, b ∉ ts → putT H ts xs ys b = H b
  | [], _, _, _ => rfl
  | _ :: _, [], _, _ => rfl
  | _ :: _, _ :: _, [], _ => rfl
  | t :: ts, x :: xs, y :: ys, h => by
    have e : b ≠ t := fun e => h (by rw [e]; exact List.mem_cons_self)
    rw [putT, upd_ne e]
    exact putT_old fun q => h (List.mem_cons_of_mem _ q)
theorem putT_inv {H : Hp} {b : Addr} {o : HO} : ∀ {ts : List Addr} {xs ys : List V}, putT H ts xs ys b = some o → H b = some o ∨ ∃ (j : Nat) (x y : V), ts[j]? = some b ∧ xs[j]? = some x ∧ ys[j]? = some y ∧ o = .tup [x, y]
  | [], _, _, h => .inl h
  | _ :: _, [], _, h => .inl h
  | _ :: _, _ :: _, [], h => .inl h
  | t :: ts, x :: xs, y :: ys, h => by
    rw [putT] at h
    by_cases e : b = t
    · subst e
      rw [upd_same] at h
      exact .inr ⟨0, x, y, rfl, rfl, rfl, (Option.some.inj h).symm⟩
    · rw [upd_ne e] at h
      rcases putT_inv h with q | ⟨j, u, v, q1, q2, q3, q4⟩
      · exact .inl q
      · exact .inr ⟨j + 1, u, v, q1, q2, q3, q4⟩
theorem putT_at {H : Hp} : ∀ {ts : List Addr} {xs ys : List V} {j : Nat} {t : Addr} {x y : V}, ts.Pairwise (· < ·) → ts[j]? = some t → xs[j]? = some x → ys[j]? = some y → putT H ts xs ys t = some (.tup [x, y])
  | [], _, _, _, _, _, _, _, h, _, _ => by simp at h
  | _ :: _, [], _, _, _, _, _, _, _, h, _ => by simp at h
  | _ :: _, _ :: _, [], _, _, _, _, _, _, _, h => by simp at h
  | t :: ts, x :: xs, y :: ys, 0, _, _, _, _, h1, h2, h3 => by
    simp only [List.getElem?_cons_zero, Option.some.injEq] at h1 h2 h3
    rw [putT, h1, h2, h3, upd_same]
  | t :: ts, x :: xs, y :: ys, j + 1, t', _, _, p, h1, h2, h3 => by
    rw [List.pairwise_cons] at p
    rw [putT, upd_ne (Nat.ne_of_gt (p.1 t' (List.mem_of_getElem? (by simpa using h1))))]
    exact putT_at p.2 (by simpa using h1) (by simpa using h2) (by simpa using h3)
theorem refs_of : ∀ l : List Value, (∀ v ∈ l, ∃ b : Addr, v = .ref b) → ∃ ts : List Addr, l = ts.map Value.ref
  | [], _ => ⟨[], rfl⟩
  | v :: l, h => by
    obtain ⟨b, rfl⟩ := h v List.mem_cons_self
    obtain ⟨ts, rfl⟩ := refs_of l fun u hu => h u (List.mem_cons_of_mem _ hu)
    exact ⟨b :: ts, rfl⟩
/-- the abstract heap behind list(zip(..)) -/
def zipH (H : Hp) (L : Addr) (ts : List Addr) (xs ys : List V) : Hp := upd (putT H ts xs ys) L (.lst (ts.map V.ref))
def tLstZip (K : PySem.W.Frag) (ta : TA) : TE := fun σ H Q => ta σ H fun vs H1 => ∃ a b xs ys, vs = [.ref a, .ref b] ∧ SqT K H1 a xs ∧ SqT K H1 b ys ∧
  ∀ (q : Addr) (ts : List Addr) (H2 : Hp), Same H1 H2 → H2 q = some (.lst (ts.map V.ref)) → ts.length = min xs.length ys.length → (∀ (j : Nat) (t : Addr) (x y : V), ts[j]? = some t → xs[j]? = some x → ys[j]? = some y → H2 t = some (.tup [x, y])) → Q (.ref q) H2
theorem pe_listZip {X : Cx} {e e2 : Expr} {ta : TA} {p p2 pos pos2 : Pos} (hc : X.calm = true) (hg : Gl X "list") (hm : X.mg "list" = none) (hgz : Gl X "zip") (hmz : X.mg "zip" = none) (ha : PA X [e, e2] ta)
    (hs : starEach [e, e2] X.env = (false, eval e X.env) :: starEach [e2] X.env := by rfl) (hpl : (backTo pos2 (starEach [e2] X.env)).any (·.1) = false := by rfl)
    (na : starEach [Expr.Call (.Name "zip" p2) [e, e2] [] pos2] X.env = (false, eval (.Call (.Name "zip" p2) [e, e2] [] pos2) X.env) :: starEach [] X.env := by rfl) :
    PE X (.Call (.Name "list" p) [.Call (.Name "zip" p2) [e, e2] [] pos2] [] pos) (tLstZip X.K ta) := by
  refine ⟨fun pins s σ H Q I h => ?_⟩
  have inner : wpAny (model X.prog X.w) X.A (eval (.Call (.Name "zip" p2) [e, e2] [] pos2) X.env) (fun x s' => ∃ (s1 : Shared) (h' : Heap) (H1 : Hp) (a b : Addr) (xs ys : List V) (its its2 : List Value),
      s' = { s1 with heap := h' } ∧ x = .ref (s1.heap.objs.size + 4) ∧ Inv X pins σ H1 s1 ∧ Vals xs its ∧ Vals ys its2 ∧ s1.heap.IsTuple a its.toArray ∧ s1.heap.IsTuple b its2.toArray ∧ its.length ≤ sizeLine ∧
      IsZip h' (s1.heap.objs.size + 4) (s1.heap.objs.size + 2) (s1.heap.objs.size + 3) .none ∧ IsPair h' (s1.heap.objs.size + 2) (.ref s1.heap.objs.size) (.ref (s1.heap.objs.size + 1)) ∧ IsPair h' (s1.heap.objs.size + 3) .none .none ∧
      h'.IsTupleIter s1.heap.objs.size a 0 ∧ h'.IsTupleIter (s1.heap.objs.size + 1) b 0 ∧ h'.objs.size = s1.heap.objs.size + 5 ∧ (∀ c o, s1.heap.get? c = some o → h'.get? c = some o) ∧
      ∀ (q : Addr) (ts : List Addr) (H2 : Hp), Same H1 H2 → H2 q = some (.lst (ts.map V.ref)) → ts.length = min xs.length ys.length → (∀ (j : Nat) (t : Addr) (x y : V), ts[j]? = some t → xs[j]? = some x → ys[j]? = some y → H2 t = some (.tup [x, y])) → Q (.ref q) H2) X.xe s := by
    refine Call_ (ld_blt I hgz hmz PyProof.Rows.boot_zip (PyProof.Rows.callWith_type1 (thn (ha.run pos2 pins s σ H _ I h) fun us s1 ⟨vs, H1, I1, r1, q1⟩ => ?_) hs hpl))
    obtain ⟨a, b, xs, ys, ex, hx, hy, q⟩ := q1
    subst ex
    cases r1 with
    | cons r rr =>
      cases rr with
      | cons r' rr =>
        cases rr
        cases r
        cases r'
        obtain ⟨its, rv, t1, z1⟩ := I1.tuple hx
        obtain ⟨its2, rv2, t2, _⟩ := I1.tuple hy
        have l1 := rv.length
        exact RZ.call_zipT (show s1.heap.IsTuple a its.toArray from t1) (show s1.heap.IsTuple b its2.toArray from t2) fun h' hz hTI hTO h1 h2 hsz hk => ⟨s1, h', H1, a, b, xs, ys, its, its2, rfl, rfl, I1, rv, rv2, t1, t2, by omega, hz, hTI, hTO, h1, h2, hsz, hk, q⟩
  refine Call_ (ld_blt I hg hm boot_list (PyProof.Rows.callWith_type1 (args_cons (thn inner fun x s' hx => args_nil ?_) na) na))
  obtain ⟨s1, h', H1, a, b, xs, ys, its, its2, rfl, rfl, I1, rv, rv2, t1, t2, hlen, hz, hTI, hTO, h1, h2, hsz, hk, q⟩ := hx
  obtain ⟨o1, g1, _⟩ := id t1
  obtain ⟨o2, g2, _⟩ := id t2
  have aN : a < s1.heap.objs.size := Heap.lt_size g1
  have bN : b < s1.heap.objs.size := Heap.lt_size g2
  have S := zip_sep2 (N := s1.heap.objs.size) (fp1 := [a]) (fp2 := [b]) (fun c hc => by rw [List.mem_singleton.mp hc]; exact aN) (fun c hc => by rw [List.mem_singleton.mp hc]; exact bN)
  have l1 := rv.length
  have l2 := rv2.length
  refine list_zip (s := { s1 with heap := h' }) S (fun A hh => Draws.tuple hh s1.heap.objs.size a (Nat.ne_of_lt aN) its.toArray) (fun A hh => Draws.tuple hh (s1.heap.objs.size + 1) b (Nat.ne_of_lt (Nat.lt_succ_of_lt bN)) its2.toArray) (I1.ok.hd hc)
    (by rw [List.size_toArray]; omega) hz hTI hTO ⟨h1, t1.at fun o e => hk _ o e⟩ ⟨h2, t2.at fun o e => hk _ o e⟩ ?_ ?_ ?_
  · intro c hc
    show c < h'.objs.size
    rw [hsz]
    rcases List.mem_cons.mp hc with e | e
    · rw [e]; exact Nat.lt_add_of_pos_right (by decide)
    · rw [List.mem_singleton.mp e]; exact Nat.lt_of_lt_of_le aN (Nat.le_add_right _ _)
  · intro c hc
    show c < h'.objs.size
    rw [hsz]
    rcases List.mem_cons.mp hc with e | e
    · rw [e]; exact Nat.add_lt_add_left (by decide) _
    · rw [List.mem_singleton.mp e]; exact Nat.lt_of_lt_of_le bN (Nat.le_add_right _ _)
  · intro hf tk acc c' keep hL hacc hM
    obtain ⟨ts, hts⟩ := refs_of acc.toList fun v hv => by
      obtain ⟨j, hj⟩ := List.getElem?_of_mem hv
      obtain ⟨t, _, _, ev, _⟩ := hM.1 j v (by rw [← Array.getElem?_toList]; exact hj)
      exact ⟨t, ev⟩
    have at_ : ∀ (j : Nat) (t : Addr), ts[j]? = some t → acc[j]? = some (Value.ref t) := fun j t e => by
      rw [← Array.getElem?_toList, hts, List.getElem?_map, e]; rfl
    have big' : ∀ (j : Nat) (t : Addr), ts[j]? = some t → h'.objs.size + 1 ≤ t := fun j t e => by
      obtain ⟨b', _, _, ev, hb, _⟩ := hM.1 j _ (at_ j t e)
      cases ev
      exact hb
    have inc : ts.Pairwise (· < ·) := by
      rw [List.pairwise_iff_getElem]
      intro i j hi hj hij
      exact hM.2 i j _ _ hij (at_ i _ (List.getElem?_eq_getElem hi)) (at_ j _ (List.getElem?_eq_getElem hj))
    have hlt : ts.length = min xs.length ys.length := by
      have e1 : ts.length = acc.toList.length := by rw [hts, List.length_map]
      rw [e1, Array.length_toList, hacc, List.size_toArray, List.size_toArray, l1, l2]
    have notL : h'.objs.size ∉ ts := fun q => by
      obtain ⟨j, hj⟩ := List.getElem?_of_mem q
      exact Nat.not_succ_le_self _ (big' j _ hj)
    have small : ∀ c : Addr, c < s1.heap.objs.size → zipH H1 h'.objs.size ts xs ys c = H1 c := fun c hc => by
      have c1 : c ≠ h'.objs.size := Nat.ne_of_lt (Nat.lt_of_lt_of_le hc (by rw [hsz]; exact Nat.le_add_right _ _))
      have c2 : c ∉ ts := fun q => by
        obtain ⟨j, hj⟩ := List.getElem?_of_mem q
        have g := big' j _ hj
        rw [hsz] at g
        exact absurd (Nat.lt_of_lt_of_le hc (Nat.le_trans (Nat.le_add_right _ 6) g)) (Nat.lt_irrefl _)
      unfold zipH
      rw [upd_ne c1, putT_old c2]
    have kk : ∀ c o, s1.heap.get? c = some o → hf.get? c = some o := fun c o e => by
      have hcN : c < s1.heap.objs.size := Heap.lt_size e
      have g : ∀ n : Nat, c ≠ s1.heap.objs.size + n := fun n => Nat.ne_of_lt (Nat.lt_of_lt_of_le hcN (Nat.le_add_right _ n))
      exact keep c o (by show c < h'.objs.size; rw [hsz]; exact Nat.lt_of_lt_of_le hcN (Nat.le_add_right _ 5)) (g 4) (g 3) (g 0) (g 1) (hk c o e)
    have old : ∀ c u, H1 c = some u → zipH H1 h'.objs.size ts xs ys c = some u := fun c u e => by rw [small c (I1.hok.lt e)]; exact e
    have hq : zipH H1 h'.objs.size ts xs ys h'.objs.size = some (.lst (ts.map V.ref)) := upd_same
    have hT : ∀ (j : Nat) (t : Addr) (x y : V), ts[j]? = some t → xs[j]? = some x → ys[j]? = some y → zipH H1 h'.objs.size ts xs ys t = some (.tup [x, y]) := fun j t x y e1 e2 e3 => by
      have ht : t ≠ h'.objs.size := Nat.ne_of_gt (big' j t e1)
      unfold zipH
      rw [upd_ne ht]
      exact putT_at inc e1 e2 e3
    refine ⟨.ref h'.objs.size, zipH H1 h'.objs.size ts xs ys, I1.un (t' := tk) (h' := hf) ⟨fun c o e _ _ _ => kk c o e, fun c o e _ _ _ => ⟨o.slots, kk c o e⟩, fun c o e n _ => by rw [small c (Heap.lt_size e)]; exact n, fun c o e _ => ⟨o, kk c o e⟩, fun c us e => old c _ e, fun c o u e => old c _ e, fun c ps e => ⟨#[], by rw [old c _ e]; simp⟩⟩ ?_, rfl, q _ ts _ old hq hlt hT⟩
    intro c u e
    by_cases hc' : c = h'.objs.size
    · subst hc'
      rw [hq] at e
      cases e
      refine ⟨by rw [List.length_map, hlt]; omega, acc.toList, c', ?_, by rw [Array.toArray_toList]; exact hL⟩
      rw [hts]
      exact vals_refs ts
    · unfold zipH at e
      rw [upd_ne hc'] at e
      rcases putT_inv e with e | ⟨j, x, y, j1, j2, j3, rfl⟩
      · exact (I1.hok c u e).stay (fun d v _ g => kk d v g) (fun d g => old d _ g) fun d us g => old d _ g
      · obtain ⟨b', x1, x2, ev, hb, p1, p2, ht⟩ := hM.1 j _ (at_ j c j1)
        cases ev
        obtain ⟨u1, w1, v1⟩ := rv.get j2
        obtain ⟨u2, w2, v2⟩ := rv2.get j3
        have e1 : u1 = x1 := Option.some.inj (w1.symm.trans (by simpa using p1))
        have e2 : u2 = x2 := Option.some.inj (w2.symm.trans (by simpa using p2))
        subst e1 e2
        exact ⟨by show 2 ≤ sizeLine; decide, [u1, u2], .cons v1 (.cons v2 .nil), ⟨_, ht, rfl, _, rfl⟩⟩
end My

set_option Elab.async false
set_option linter.all false
set_option maxRecDepth 100000
set_option maxHeartbeats 4000000
namespace My
open PySem PySem.W PySem.Spec PyProof.Rows L2
/-- zip of a text and a tuple as it stands -/
def ItzS (K : PySem.W.Frag) (x : Str) (b : Addr) (ys : List V) : It :=
  ⟨fun i H => SqT K H b ys ∧ i < x.cps.size ∧ i < ys.length,
    fun i H v H' => ∃ T c y, v = .ref T ∧ H T = none ∧ H' = upd H T (.tup [.str ⟨#[c]⟩, y]) ∧ x.cps[i]? = some c ∧ ys[i]? = some y,
    fun i H => SqT K H b ys ∧ (x.cps.size ≤ i ∨ ys.length ≤ i)⟩
theorem turn_zipS {P : Program} {w : World} {K : PySem.W.Frag} {elts : List Expr} {kk : Nat} {tpos : Pos} {N b : Addr} {x : Str} {t : Tok} {ys : List V} (bN : b < N) :
    Turn P w K (.Tuple elts kk tpos) (ItzS K x b ys) [N + 4, N + 2, N + 3, N, N + 1] (N + 4) (fun i h => IsZip h (N + 4) (N + 2) (N + 3) .none ∧ IsTupOf2 h (N + 2) (.ref N) (.ref (N + 1)) ∧ (∃ a1 a2, IsTupOf2 h (N + 3) a1 a2) ∧ h.IsStrIter N (strIterType x) x t i ∧ h.IsTupleIter (N + 1) b i ∧ i ≤ x.cps.size ∧ i ≤ ys.length) where
  mem := by simp
  obj := fun i h st c hc => by
    obtain ⟨hz, hTI, ⟨a1, a2, hTO⟩, ⟨o1, e1, _, d1⟩, ⟨o2, e2, _, d2⟩, _, _⟩ := st
    have e' : c = N + 4 ∨ c = N + 2 ∨ c = N + 3 ∨ c = N ∨ c = N + 1 := by simpa using hc
    rcases e' with q | q | q | q | q
    · rw [q]; exact ⟨_, hz, fun v q => nomatch q⟩
    · rw [q]; exact ⟨_, hTI, fun v q => nomatch q⟩
    · rw [q]; exact ⟨_, hTO, fun v q => nomatch q⟩
    · rw [q]; exact ⟨o1, e1, fun v q => by rw [d1] at q; cases q⟩
    · rw [q]; exact ⟨o2, e2, fun v q => by rw [d2] at q; cases q⟩
  keep := fun i h h' st k => by
    obtain ⟨hz, hTI, ⟨a1, a2, hTO⟩, ⟨o1, e1, r1⟩, h2, l1, l2⟩ := st
    exact ⟨k _ (by simp) _ hz, k _ (by simp) _ hTI, ⟨a1, a2, k _ (by simp) _ hTO⟩, ⟨o1, k _ (by simp) _ e1, r1⟩, h2.at fun o q => k _ (by simp) o q, l1, l2⟩
  item := by
    intro X hP hw hK hc i pins s σ H E I hf st hg
    subst hP hw hK
    obtain ⟨hz, hTI, ⟨a1, a2, hTO⟩, h1, h2, l1, l2⟩ := st
    obtain ⟨hqy, g1, g2⟩ := hg
    obtain ⟨its2, rv2, p2, _⟩ := I.tuple hqy
    have hl2 := rv2.length
    have S := zip_sep2 (N := N) (fp1 := []) (fp2 := [b]) (fun c hc => nomatch hc) (fun c hc => by rw [List.mem_singleton.mp hc]; exact bN)
    have d1 := Draws.text (prog := X.prog) (w := X.w) (A := X.A.in1) (I.ok.hd hc) N x t
    have d2 := Draws.tuple (prog := X.prog) (w := X.w) (A := X.A.in1) (I.ok.hd hc) (N + 1) b (Nat.ne_of_lt (Nat.lt_succ_of_lt bN)) its2.toArray
    refine wpAny_pyNext_zipD2_item S d1 d2 hz hTI hTO h1 ⟨h2, p2⟩ g1 (by rw [List.size_toArray]; omega) fun x1 x2 h' tk q1 q2 hz' hTO' s1 s2 hT hsz hk => ?_
    obtain ⟨c, u, hcx, rfl⟩ := q1
    have hzl : N + 4 < s.heap.objs.size := Heap.lt_size hz
    refine ⟨_, rfl, wpAny_letOwnedTupleGo_zip (s := { s with heap := h', toks := tk }) hz' fun h'' z'' sb => ?_⟩
    have sb : Heap.SameBut (N + 4) h' h'' := sb
    have hys : ys[i]? = some ys[i] := List.getElem?_eq_getElem g2
    obtain ⟨u2, hu2, ru2⟩ := rv2.get hys
    have e2 : u2 = x2 := Option.some.inj (hu2.symm.trans (by simpa using q2))
    subst e2
    have hT2 : h''.get? s.heap.objs.size = some { cls := .type "tuple", data := .seq #[.str ⟨#[c]⟩ u, u2] } := (sb.2 _ (Nat.ne_of_gt hzl)).trans hT
    have new : ObjOk X.prog X.w (upd H s.heap.objs.size (.tup [.str ⟨#[c]⟩, ys[i]])) h'' s.heap.objs.size (.tup [.str ⟨#[c]⟩, ys[i]]) :=
      ⟨by show 2 ≤ sizeLine; decide, [.str ⟨#[c]⟩ u, u2], .cons ⟨u, rfl⟩ (.cons ru2 .nil), ⟨_, hT2, rfl, _, rfl⟩⟩
    have I1 : Inv X pins σ (upd H s.heap.objs.size (.tup [.str ⟨#[c]⟩, ys[i]])) { s with heap := h'', toks := tk } :=
      I.turnedNew (t' := tk) (ch := [N + 4, N + 2, N + 3, N, N + 1]) (fun c o hb q => (sb.2 c (fun q' => hb (by simp [q']))).trans (hk c o (fun q' => hb (by simp [q'])) (fun q' => hb (by simp [q'])) (fun q' => hb (by simp [q'])) (fun q' => hb (by simp [q'])) q)) hf (Nat.le_refl _) new
    have ne : ∀ {a k : Nat}, a < k → N + a ≠ N + k := fun h => Nat.ne_of_lt (Nat.add_lt_add_left h _)
    have st' : h''.IsStrIter N (strIterType x) x t (i + 1) := let ⟨o, ho, r⟩ := s1; ⟨o, (sb.2 _ (ne (a := 0) (k := 4) (by decide))).trans ho, r⟩
    refine ⟨.ref s.heap.objs.size, _, I1, rfl, ⟨_, c, ys[i], rfl, I.hok.fresh (Nat.le_refl _), rfl, hcx, hys⟩, ⟨z'', ?_, ⟨.str ⟨#[c]⟩ u, u2, ?_⟩, st', ?_, g1, g2⟩, fun c' hcm => ?_⟩
    · exact (sb.2 _ S.TIz).trans (hk _ _ S.TIz S.TITO S.TIi1 S.TIi2 hTI)
    · exact (sb.2 _ S.TOz).trans hTO'
    · exact s2.1.at fun o q => (sb.2 _ (ne (a := 1) (k := 4) (by decide))).trans q
    · have hlt : c' < s.heap.objs.size := by
        have e' : c' = N + 4 ∨ c' = N + 2 ∨ c' = N + 3 ∨ c' = N ∨ c' = N + 1 := by simpa using hcm
        have b4 : ∀ k, k ≤ 4 → N + k < s.heap.objs.size := fun k hk' => Nat.lt_of_le_of_lt (Nat.add_le_add_left hk' _) hzl
        rcases e' with q | q | q | q | q
        · rw [q]; exact hzl
        · rw [q]; exact b4 2 (by decide)
        · rw [q]; exact b4 3 (by decide)
        · rw [q]; exact b4 0 (by decide)
        · rw [q]; exact b4 1 (by decide)
      rw [upd_ne (Nat.ne_of_lt hlt)]
      exact (hf c' hcm).1
  done := by
    intro X hP hw hK hc i pins s σ H E I hf st hg
    subst hP hw hK
    obtain ⟨hz, hTI, ⟨a1, a2, hTO⟩, h1, h2, l1, l2⟩ := st
    obtain ⟨hqy, hend⟩ := hg
    have hend : x.cps.size ≤ i ∨ ys.length ≤ i := hend
    obtain ⟨its2, rv2, p2, _⟩ := I.tuple hqy
    have hl2 := rv2.length
    have S := zip_sep2 (N := N) (fp1 := []) (fp2 := [b]) (fun c hc => nomatch hc) (fun c hc => by rw [List.mem_singleton.mp hc]; exact bN)
    have d1 := Draws.text (prog := X.prog) (w := X.w) (A := X.A.in1) (I.ok.hd hc) N x t
    have d2 := Draws.tuple (prog := X.prog) (w := X.w) (A := X.A.in1) (I.ok.hd hc) (N + 1) b (Nat.ne_of_lt (Nat.lt_succ_of_lt bN)) its2.toArray
    exact wpAny_pyNext_zipD2_end S d1 d2 hz hTI hTO h1 ⟨h2, p2⟩ l1 (by rw [List.size_toArray]; omega) (by rcases hend with q | q; exact .inl (Nat.le_antisymm l1 q); exact .inr (by have := List.size_toArray (as := its2); omega)) fun h' tk hk => ⟨rfl, I.turnedL (t' := tk) (ch := [N + 4, N + 2, N + 3, N, N + 1]) (fun c o hb q =>
      hk c o (fun q' => hb (by simp [q'])) (fun q' => hb (by simp [q'])) (fun q' => hb (by simp [q'])) (fun q' => hb (by simp [q'])) q) hf⟩
  self := fun A i s Q E st h => wpAny_pyIter_zip st.1 h
def iZipS (K : PySem.W.Frag) (ta : TA) : TI := fun σ H R => ta σ H fun vs H1 => ∃ x b ys, vs = [.str x, .ref b] ∧ SqT K H1 b ys ∧ R (ItzS K x b ys) H1
theorem pi_zipS {X : Cx} {e e2 : Expr} {ta : TA} {p pos tpos : Pos} {elts : List Expr} {kk : Nat} (hg : Gl X "zip") (hm : X.mg "zip" = none) (ha : PA X [e, e2] ta)
    (hs : starEach [e, e2] X.env = (false, eval e X.env) :: starEach [e2] X.env := by rfl) (hpl : (backTo pos (starEach [e2] X.env)).any (·.1) = false := by rfl) :
    PI X (.Tuple elts kk tpos) (.Call (.Name "zip" p) [e, e2] [] pos) (iZipS X.K ta) := by
  refine ⟨fun pins s σ H R I h => ?_⟩
  refine Call_ (ld_blt I hg hm PyProof.Rows.boot_zip (PyProof.Rows.callWith_type1 (thn (ha.run pos pins s σ H _ I h) fun us s1 ⟨vs, H1, I1, r1, q1⟩ => ?_) hs hpl))
  obtain ⟨x, b, ys, ex, hy, q⟩ := q1
  subst ex
  cases r1 with
  | cons r rr =>
    cases rr with
    | cons r' rr =>
      cases rr
      obtain ⟨t, rfl⟩ := r
      cases r'
      obtain ⟨its2, rv2, p2, _⟩ := I1.tuple hy
      obtain ⟨o2, g2, _⟩ := id p2
      refine zip_begins2 (begins_text x t) (begins_tuple b its2.toArray) trivial p2 fun h' hz hTI hTO h1 h2 hsz hk => wpAny_pyIter_zip hz ?_
      have I2 : Inv X pins σ H1 { s1 with heap := h' } := I1.kept (t' := s1.toks) hk
      refine ⟨s1.heap.objs.size + 4, _, _, _, H1, rfl, I2, turn_zipS (x := x) (t := t) (ys := ys) (Heap.lt_size g2), ⟨hz, hTI, ⟨_, _, hTO⟩, ⟨_, h1, rfl, rfl⟩, ⟨_, h2, rfl, rfl⟩, Nat.zero_le _, Nat.zero_le _⟩, fun c hcm => ?_, q⟩
      have e' : c = s1.heap.objs.size + 4 ∨ c = s1.heap.objs.size + 2 ∨ c = s1.heap.objs.size + 3 ∨ c = s1.heap.objs.size ∨ c = s1.heap.objs.size + 1 := by simpa using hcm
      have hle : s1.heap.objs.size ≤ c := by
        rcases e' with z | z | z | z | z
        · rw [z]; exact Nat.le_add_right _ _
        · rw [z]; exact Nat.le_add_right _ _
        · rw [z]; exact Nat.le_add_right _ _
        · rw [z]; exact Nat.le_refl _
        · rw [z]; exact Nat.le_add_right _ _
      exact I1.fpOk hle (I1.hok.fresh hle)
/-- a loop over zip of a text and a tuple of one length -/
theorem for_zipS {K : PySem.W.Frag} {x : Str} {b : Addr} {ys : List V} {g : TG} {tb : TS} {D : Ends} {σ : L2.St} {H : Hp} (hl : x.cps.size = ys.length) (Pv : Nat → L2.St → Hp → Prop) (h0 : Pv 0 σ H) (hq : ∀ i σ H, Pv i σ H → SqT K H b ys)
    (hs : ∀ (i c : Nat) (y : V) (T : Addr) (σ : L2.St) (H : Hp), x.cps[i]? = some c → ys[i]? = some y → Pv i σ H → H T = none → g (.ref T) σ (upd H T (.tup [.str ⟨#[c]⟩, y])) fun σ2 H2 => tb { D with nx := Pv (i + 1), ct := Pv (i + 1), bk := D.nx } σ2 H2) (hd : ∀ σ H, Pv ys.length σ H → D.nx σ H) :
    ∃ W : Nat → Nat → L2.St → Hp → Prop, (∃ m, W 0 m σ H) ∧ ∀ i m σ H, W i m σ H →
      ((ItzS K x b ys).stop i H ∧ D.nx σ H) ∨ ((ItzS K x b ys).go i H ∧ ∃ N : L2.St → Hp → Prop, (∀ σ' H', N σ' H' → ∃ m', m' < m ∧ W (i + 1) m' σ' H') ∧ ∀ v H', (ItzS K x b ys).yld i H v H' → g v σ H' fun σ2 H2 => tb { D with nx := N, ct := N, bk := D.nx } σ2 H2) := by
  refine ⟨fun i m σ H => m = ys.length - i ∧ i ≤ ys.length ∧ Pv i σ H, ⟨ys.length, rfl, Nat.zero_le _, h0⟩, ?_⟩
  rintro i m σ H ⟨rfl, hi, p⟩
  have q := hq i σ H p
  by_cases hlt : i < ys.length
  · refine .inr ⟨⟨q, by omega, hlt⟩, Pv (i + 1), fun σ' H' p' => ⟨ys.length - (i + 1), by omega, rfl, hlt, p'⟩, fun v H' y => ?_⟩
    obtain ⟨T, c, y', rfl, hT, rfl, f1, f2⟩ := y
    exact hs i c y' T σ H f1 f2 p hT
  · have e : i = ys.length := by omega
    subst e
    exact .inl ⟨⟨q, .inr (Nat.le_refl _)⟩, hd σ H p⟩
end My

set_option Elab.async false
set_option linter.all false
set_option maxRecDepth 100000
set_option maxHeartbeats 4000000
namespace My
open PySem PySem.W PySem.Spec PyProof.Rows L2
/-- a local name that holds one of several defs, called -/
def tCallA (i : Nat) (Ok : Addr → Sp → Prop) (t : TA) : TE := fun σ H Q => ∃ f sp, σ[i]? = some (some (.ref f)) ∧ Ok f sp ∧ t σ H fun vs H1 => sp vs H1 Q E0
theorem pe_cvA {X : Cx} {i k : Nat} {x : Str} {e : Expr} {es : List Expr} {t : TA} {p pos : Pos} {Ok : Addr → Sp → Prop} (c : ∀ f sp, Ok f sp → C8.CalAt X.prog X.w X.K X.mg X.base k f sp) (hr : Room k X.A) (hN : X.N[i]? = some x) (hv : Vis X.env.scope x) (ha : PA X (e :: es) t)
    (hd : (x == ("__debug__" : Str)) = false := by decide) (hcd : (x == ("__classdict__" : Str)) = false := by decide)
    (he : starEach (e :: es) X.env = (false, eval e X.env) :: starEach es X.env := by rfl) (hpl : (backTo pos (starEach es X.env)).any (·.1) = false := by rfl) :
    PE X (.Call (.Name x p) (e :: es) [] pos) (tCallA i Ok t) := by
  refine ⟨fun pins s σ H Q I h => ?_⟩
  obtain ⟨f, sp, hs, hok, ht⟩ := h
  obtain ⟨fd, ps, F, kp, b⟩ := (c f sp hok).ex
  refine wpAny_Call_Name_kw (thn ((pe_var (pos := p) hN hv hd hcd).run pins s σ H (fun v H1 => v = .ref f ∧ H1 = H) I ⟨.ref f, hs, rfl, rfl⟩) fun u s1 ⟨v, H1, I1, r1, q1⟩ => ?_)
  obtain ⟨rfl, rfl⟩ := q1
  cases r1
  refine PySem.W.callWith_K (h₀ := X.base) I.ok.mod.kin kp (thn (ha.run pos pins s1 σ _ _ I1 ht) fun us s2 ⟨vs, H2, I2, r, q⟩ => ⟨I2.kIn, ?_⟩) he hpl
  exact run_fn F hr b .nil pass0 I2 r (by rw [List.append_nil]; exact q)
/-- d.update(e) of two dicts of ours -/
def rUpdate : V → List V → Hp → VK → Prop := fun x vs H Q => ∃ d o kvs ws, x = .ref d ∧ vs = [.ref o] ∧ H d = some (.dK kvs) ∧ H o = some (.dK ws) ∧ d ≠ o ∧ kvs.length + ws.length ≤ sizeLine ∧ Q .non (upd H d (.dK (mergeK kvs ws)))
theorem mt_update {X : Cx} : MtM X "dict.update" rUpdate := by
  intro pins s σ H x vs v us Q I rx rv h
  obtain ⟨d, o, kvs, ws, rfl, rfl, hd, ho, hne, hz, q⟩ := h
  cases rx
  obtain ⟨u, rfl, ru⟩ := rv.one
  cases ru
  obtain ⟨z1, lo1, vs1, k1, hD⟩ := (show ObjOk X.prog X.w H s.heap d (.dK kvs) from I.hok d _ hd)
  obtain ⟨z2, lo2, vs2, k2, hO⟩ := (show ObjOk X.prog X.w H s.heap o (.dK ws) from I.hok o _ ho)
  have e1 := Paired.length k1
  have e2 := Paired.length k2
  refine call_meetsIn PySem.F.slot_dict_update hD.typeIs PySem.F.entry_dict_update (PySem.F.args_dict_update_2 _ _) (meets_dict_update (mixKind X.prog X.w) d o hne lo2)
    ⟨vs1, vs2, hD, hO, (by omega), fun h' hm _ hs => ?_⟩
  refine ⟨.non, upd H d (.dK (mergeK kvs ws)), I.write (t' := s.toks) (x := d) (e := d) (by rw [hd]; exact trivial) (.inl rfl) (fun b q hb z => (hs.2 b hb).trans z) ?_ ?_, rfl, q⟩
  · obtain ⟨o', ho', _⟩ := Heap.dictOf_iff.mp hm
    exact ⟨o', ho'⟩
  · refine ⟨?_, lo1, merged vs1 vs2, KV.merge k2 k1, hm⟩
    have e := Paired.length (KV.merge k2 k1)
    have e' := merged_length_le vs1 vs2
    omega
end My

set_option Elab.async false
set_option linter.all false
set_option maxRecDepth 100000
set_option maxHeartbeats 4000000
namespace My
open PySem L2
/-! ### the pen: what a law draws from -/
abbrev kC : Key := Sum.inr "cells"
abbrev kA : Key := Sum.inr "at"
abbrev kL : Key := Sum.inr "left"
def pen (l : Addr) (n L : Int) : List (Key × V) := [(kC, .ref l), (kA, .int n), (kL, .int L)]
theorem sCA : ¬ Str.ofString "cells" = Str.ofString "at" := by decide +kernel
theorem sCL : ¬ Str.ofString "cells" = Str.ofString "left" := by decide +kernel
theorem sAL : ¬ Str.ofString "at" = Str.ofString "left" := by decide +kernel
theorem sLA : ¬ Str.ofString "left" = Str.ofString "at" := by decide +kernel
theorem nCA : ¬ kC = kA := fun h => absurd (Sum.inr.inj h) (by decide +kernel)
theorem nCL : ¬ kC = kL := fun h => absurd (Sum.inr.inj h) (by decide +kernel)
theorem nAL : ¬ kA = kL := fun h => absurd (Sum.inr.inj h) (by decide +kernel)
theorem pen_c (l : Addr) (n L : Int) : valV (pen l n L) kC = some (.ref l) := valV_pos rfl
theorem pen_a (l : Addr) (n L : Int) : valV (pen l n L) kA = some (.int n) := (valV_neg nCA).trans (valV_pos rfl)
theorem pen_l (l : Addr) (n L : Int) : valV (pen l n L) kL = some (.int L) := (valV_neg nCL).trans ((valV_neg nAL).trans (valV_pos rfl))
theorem pen_putA (l : Addr) (n L m : Int) : putK (pen l n L) kA (.int m) = pen l m L := by
  simp [putK, pen, sCA, sLA]
theorem pen_putL (l : Addr) (n L m : Int) : putK (pen l n L) kL (.int m) = pen l n m := by
  simp [putK, pen, sCL, sAL]
theorem pen_len (l : Addr) (n L : Int) : (pen l n L).length < sizeLine := by
  show 3 < sizeLine
  decide
theorem pen_new (l : Addr) (n L : Int) : mergeK [] (pen l n L) = pen l n L := by
  have h1 : putK [] kC (.ref l) = [(kC, V.ref l)] := rfl
  have h2 : putK [(kC, V.ref l)] kA (.int n) = [(kC, V.ref l), (kA, V.int n)] := by simp [putK, sCA]
  have h3 : putK [(kC, V.ref l), (kA, V.int n)] kL (.int L) = pen l n L := by simp [putK, pen, sCL, sAL]
  show putK (putK (putK [] kC (.ref l)) kA (.int n)) kL (.int L) = _
  rw [h1, h2, h3]
/-- a pen stands at d, its cells at l -/
structure Pen (H : Hp) (d l : Addr) (ms : List Int) (n L : Int) : Prop where
  dc : H d = some (.dK (pen l n L))
  ls : H l = some (.lst (ms.map V.int))
  n0 : 0 ≤ n
  l0 : 0 ≤ L
theorem Pen.ne {H : Hp} {d l : Addr} {ms : List Int} {n L : Int} (p : Pen H d l ms n L) : l ≠ d := ne_of p.ls p.dc (by intro z; cases z)
theorem Pen.gC {H : Hp} {d l : Addr} {ms : List Int} {n L : Int} (p : Pen H d l ms n L) : DGet H d (.str "cells") (some (.ref l)) := by
  have h := DGet.k (k := kC) p.dc
  rw [pen_c] at h
  exact h
theorem Pen.gA {H : Hp} {d l : Addr} {ms : List Int} {n L : Int} (p : Pen H d l ms n L) : DGet H d (.str "at") (some (.int n)) := by
  have h := DGet.k (k := kA) p.dc
  rw [pen_a] at h
  exact h
theorem Pen.gL {H : Hp} {d l : Addr} {ms : List Int} {n L : Int} (p : Pen H d l ms n L) : DGet H d (.str "left") (some (.int L)) := by
  have h := DGet.k (k := kL) p.dc
  rw [pen_l] at h
  exact h
theorem Pen.pA {H : Hp} {d l : Addr} {ms : List Int} {n L : Int} (p : Pen H d l ms n L) (y : Int) : DPut H d (.str "at") (.int y) (L2.upd H d (.dK (pen l y L))) := by
  have h := DPut.k (k := kA) (v := .int y) p.dc (pen_len l n L)
  rw [pen_putA] at h
  exact h
theorem Pen.pL {H : Hp} {d l : Addr} {ms : List Int} {n L : Int} (p : Pen H d l ms n L) (y : Int) : DPut H d (.str "left") (.int y) (L2.upd H d (.dK (pen l n y))) := by
  have h := DPut.k (k := kL) (v := .int y) p.dc (pen_len l n L)
  rw [pen_putL] at h
  exact h
def spPen (K : PySem.W.Frag) : Sp := fun vs H Q _ => ∃ (a : Addr) (ns : List Int), vs = [.ref a] ∧ SqL K H a (ns.map V.int) ∧
  ∀ (d l : Addr) (ms : List Int) (H' : Hp), H d = none → H l = none → Same H H' → Pen H' d l ms 0 0 → Q (.ref d) H'
def spDraw : Sp := fun vs H Q _ => ∃ (d l : Addr) (ms : List Int) (n L m : Int), vs = [.ref d, .int m] ∧ Pen H d l ms n L ∧ n < 2 ^ 40 ∧ 0 < m ∧ m < 1073741824 ∧
  ∀ (r n' L' : Int) (H' : Hp), 0 ≤ r → r < m → n ≤ n' → n' ≤ n + 1 → Pen H' d l ms n' L' → (∀ c o, H c = some o → c ≠ d → H' c = some o) → Q (.int r) H'
theorem Pen.upd' {H : Hp} {d l : Addr} {ms : List Int} {n L n' L' : Int} (p : Pen H d l ms n L) (h1 : 0 ≤ n') (h2 : 0 ≤ L') : Pen (L2.upd H d (.dK (pen l n' L'))) d l ms n' L' :=
  ⟨upd_same, by rw [upd_ne p.ne]; exact p.ls, h1, h2⟩
theorem cut_ints (ns : List Int) (lo hi : Option Int) : ∃ ms : List Int, cutV (ns.map V.int) lo hi = ms.map V.int := by
  unfold cutV
  refine ⟨(ns.drop (HT.sIx (ns.map V.int).length 0 lo)).take (HT.sIx (ns.map V.int).length (ns.map V.int).length hi - HT.sIx (ns.map V.int).length 0 lo), ?_⟩
  rw [List.map_take, List.map_drop]
section
variable {P : Program} {w : World} {K : PySem.W.Frag} {mg : Str → Option Value} {base : Heap}
abbrev sPen : Stmt := top 167
abbrev sDraw : Stmt := top 168
theorem scPen : FnScope ["_law_script"] ["_law_script"] (defScope sPen) := ⟨rfl, rfl, rfl, by decide +kernel, rfl, by decide +kernel, by decide +kernel⟩
theorem ok_pen {f : Addr} {fd : FuncData} (F : Fun K "_law_pen" "_law_pen" sPen f fd) (mList : mg "list" = none) : FnOk P w K mg base CX0 1 f fd ["_law_script"] (spPen K) := by
  refine F.ok scPen (fun vs H Q E h => ?_) (fun cdv A outer s H vs Q E hr h => ?_)
  · obtain ⟨a, ns, rfl, _⟩ := h
    rfl
  · obtain ⟨a, ns, rfl, hS, k⟩ := h
    refine ⟨_, pss_one (ps_ret (pe_disp (pps_cons pe_str (pe_callTy call_list_of (by rfl) mList (by decide +kernel) (pa_cons (pe_slice sl_list (pv 0) po_none (po_some pe_int)) pa_nil))
      (pps_cons pe_str pe_int (pps_cons pe_str pe_int pps_nil))) (by rfl) (by rfl) (fun z => by cases z) (by decide))), ?_⟩
    intro d hd
    have s1 : Same H (upd H d (.dK [])) := fun b o e => by
      rw [upd_ne (ne_of_none e hd)]; exact e
    obtain ⟨ms, em⟩ := cut_ints ns none (some 63)
    refine ⟨_, rfl, 63, rfl, a, _, rfl, s1.seq hS, fun p hp => ⟨p, _, rfl, .inl (SqL.of upd_same), fun l hl => ?_⟩⟩
    have nlp : l ≠ p := fun z => by
      rw [z, upd_same] at hl
      cases hl
    have hl1 : upd H d (.dK []) l = none := by
      rw [upd_ne nlp] at hl; exact hl
    have nld : l ≠ d := fun z => by
      rw [z, upd_same] at hl1
      cases hl1
    have npd : p ≠ d := fun z => by
      rw [z, upd_same] at hp
      cases hp
    have hl0 : H l = none := by
      rw [upd_ne nld] at hl1; exact hl1
    have hp0 : H p = none := by
      rw [upd_ne npd] at hp; exact hp
    refine ⟨by rw [upd_ne (Ne.symm nld), upd_ne (Ne.symm npd), upd_same], pen l 0 0, rfl, by show 3 ≤ 15; decide, ?_⟩
    rw [pen_new]
    refine k d l ms _ hd hl0 (fun b o e => ?_) ⟨upd_same, ?_, Int.le_refl _, Int.le_refl _⟩
    · rw [upd_ne (ne_of_none e hd), upd_ne (ne_of_none e hl0), upd_ne (ne_of_none e hp0), upd_ne (ne_of_none e hd)]
      exact e
    · rw [upd_ne nld, upd_same]
      exact congrArg (fun z => some (HO.lst z)) em
theorem scDraw : FnScope ["_law_held", "_law_many", "_law_found", "_law_at", "_law_cell", "_law_number"] ["_law_held", "_law_many"] (defScope sDraw) := ⟨rfl, rfl, rfl, by decide +kernel, rfl, by decide +kernel, by decide +kernel⟩
theorem eq_nil (ms : List Int) : (!PyData.eqv (.list (ms.map PyData.int)) (.list [])) = !ms.isEmpty := by
  cases ms <;> simp [PyData.eqv, PyData.eqvAll]
theorem dp_ints {H : Hp} : ∀ ms : List Int, DpAll K H (ms.map V.int) (ms.map PyData.int)
  | [] => .nil
  | i :: r => .cons (.int i) (dp_ints r)
theorem shaped_ints (ms : List Int) : SeqAt.shaped (.list (ms.map PyData.int)) = true := by
  have h1 : ∀ ms : List Int, PyData.canLayAll0 (ms.map PyData.int) = true := by
    intro ms
    induction ms with
    | nil => rfl
    | cons a r ih => simp [PyData.canLayAll0, PyData.canLay0, ih]
  have h2 : ∀ ms : List Int, PyData.depthAll (ms.map PyData.int) ≤ 1 := by
    intro ms
    induction ms with
    | nil => simp [PyData.depthAll]
    | cons a r ih => simp [PyData.depthAll, PyData.depth]; omega
  unfold SeqAt.shaped
  have h3 := h2 ms
  simp [PyData.canLay0, PyData.depth, h1]
  omega
theorem ok_draw {f : Addr} {fd : FuncData} (F : Fun K "_law_draw" "_law_draw" sDraw f fd) (mLen : mg "len" = none) : FnOk P w K mg base CX0 1 f fd ["_law_held", "_law_many"] spDraw := by
  refine F.ok scDraw (fun vs H Q E h => ?_) (fun cdv A outer s H vs Q E hr h => ?_)
  · obtain ⟨d, l, ms, n, L, m, rfl, _⟩ := h
    rfl
  · obtain ⟨d, l, ms, n, L, m, rfl, p, hn, hm0, hm1, k⟩ := h
    have hu := hu_of hr
    have nd := scDraw.nd
    refine ⟨_, pss_cons (ps_if (pt_cmpR op_gt (pe_dget hu (pv 0) pe_str (fun _ _ => rfl)) pe_int (nomark _))
        (pss_cons (ps_set (i := 2) nd rfl (Or.inl rfl) (pe_op op_mod (pe_dget hu (pv 0) pe_str (fun _ _ => rfl)) (pv 1)))
        (pss_cons (ps_dput hu (pv 0) pe_str (pe_op op_fdiv (pe_dget hu (pv 0) pe_str (fun _ _ => rfl)) (pv 1)) rfl)
        (pss_one (ps_ret (pv 2))))) pss_nil)
      (pss_cons (ps_set (i := 3) nd rfl (Or.inl rfl) (pe_dget hu (pv 0) pe_str (fun _ _ => rfl)))
      (pss_cons (ps_dput hu (pv 0) pe_str (pe_op op_add (pv 3) pe_int) rfl)
      (pss_cons (ps_set (i := 4) nd rfl (Or.inl rfl) pe_int)
      (pss_cons (ps_if (pt_cmpR (op_neD hr.units) (pe_dget hu (pv 0) pe_str (fun _ _ => rfl)) (pe_lst pa_nil) (nomark _))
        (pss_one (ps_set (i := 4) nd rfl (Or.inl rfl) (pe_ix ix_list (pe_dget hu (pv 0) pe_str (fun _ _ => rfl)) (pe_op op_mod (pv 3) (pe_callB call_len_seq (by rfl) mLen PySem.boot_len (pa_cons (pe_dget hu (pv 0) pe_str (fun _ _ => rfl)) pa_nil))) (fun _ _ => rfl)))) pss_nil)
      (pss_cons (ps_if (PW.pt (pw_and (pt_cmpR op_lt (pv 3) (pe_callB call_len_seq (by rfl) mLen PySem.boot_len (pa_cons (pe_dget hu (pv 0) pe_str (fun _ _ => rfl)) pa_nil)) (nomark _))
          (pw_and1 (pt_cmpR op_ge (pv 4) (pe_op op_pow pe_int pe_int) (nomark _)))))
        (pss_cons (ps_dput hu (pv 0) pe_str (pe_op op_fdiv (pe_op op_sub (pv 4) (pe_op op_pow pe_int pe_int)) (pv 1)) rfl)
        (pss_one (ps_ret (pe_op op_mod (pe_op op_sub (pv 4) (pe_op op_pow pe_int pe_int)) (pv 1))))) pss_nil)
      (pss_cons (ps_set (i := 5) nd rfl (Or.inl rfl) (pe_op op_mod (pe_op op_add (pe_op op_add (pe_op op_add (pe_op op_mul (pe_op op_mod (pv 4) pe_int) pe_int) (pe_op op_mul (pe_op op_mul pe_int (pv 3)) (pv 3))) (pe_op op_mul pe_int (pv 3))) pe_int) pe_int))
      (pss_cons (ps_set (i := 5) nd rfl (Or.inl rfl) (pe_op op_mod (pe_op op_add (pe_op op_add (pe_op op_mul (pv 5) (pv 5)) (pe_op op_mul pe_int (pv 5))) pe_int) pe_int))
      (pss_one (ps_ret (pe_op op_mod (pe_op op_fdiv (pv 5) pe_int) (pv 1))))))))))), ?_⟩
    refine ⟨_, rfl, d, _, rfl, p.gL, _, _, rfl, rfl, _, rfl, ite2 (fun c => ?_) (fun c => ?_)⟩
    · refine ⟨_, rfl, d, _, rfl, p.gL, _, rfl, _, _, rfl, rfl, hm0, ?_⟩
      refine ⟨_, rfl, d, _, rfl, p.gL, _, rfl, _, _, rfl, rfl, ⟨hm0, hm1⟩, _, rfl, d, _, rfl, p.pL _, ?_⟩
      refine ⟨_, rfl, ?_⟩
      exact k _ n _ _ (Int.emod_nonneg _ (by omega)) (Int.emod_lt_of_pos _ hm0) (Int.le_refl _) (by omega) (p.upd' p.n0 (Int.ediv_nonneg p.l0 (by omega))) fun c o e nc => by
        rw [upd_ne nc]; exact e
    · refine ⟨_, rfl, d, _, rfl, p.gA, ?_⟩
      refine ⟨_, rfl, _, _, rfl, rfl, _, rfl, d, _, rfl, p.pA _, ?_⟩
      have p1 : Pen (upd H d (.dK (pen l (n + 1) L))) d l ms (n + 1) L := p.upd' (by have := p.n0; omega) p.l0
      have pw : ((10 : Int).natAbs < 2 ^ 64) := by decide
      refine ⟨_, rfl, d, _, rfl, p1.gC, Nat.zero_le _, fun q hq => ?_⟩
      have p2 : Pen (upd (upd H d (.dK (pen l (n + 1) L))) q (.lst [])) d l ms (n + 1) L :=
        ⟨by rw [upd_ne (ne_of_none p1.dc hq)]; exact p1.dc, by rw [upd_ne (ne_of_none p1.ls hq)]; exact p1.ls, p1.n0, p1.l0⟩
      have keep : ∀ c o, H c = some o → c ≠ d → (upd (upd H d (.dK (pen l (n + 1) L))) q (.lst [])) c = some o := fun c o e nc => by
        have e1 : (upd H d (.dK (pen l (n + 1) L))) c = some o := by rw [upd_ne nc]; exact e
        rw [upd_ne (ne_of_none e1 hq)]
        exact e1
      refine ⟨.list (ms.map PyData.int), .list [], .lst (SqL.of p2.ls) (dp_ints ms), .lst (SqL.of upd_same) .nil, shaped_ints ms, by decide, _, rfl, ite2 (fun c1 => ?_) (fun c1 => ?_)⟩
      · rw [eq_nil] at c1
        have hne : ms ≠ [] := fun z => by
          rw [z] at c1; cases c1
        have hlen : 0 < ms.length := List.length_pos_iff.mpr hne
        have hlen' : (0 : Int) < ((ms.map V.int).length : Int) := by rw [List.length_map]; omega
        have hlt : (n % ((ms.map V.int).length : Int)).toNat < ms.length := by
          have h1 := Int.emod_nonneg n (b := ((ms.map V.int).length : Int)) (by omega)
          have h2 := Int.emod_lt_of_pos n hlen'
          rw [List.length_map] at h1 h2 ⊢
          omega
        have hat : atI (ms.map V.int) (n % ((ms.map V.int).length : Int)) = some (V.int (ms[(n % ((ms.map V.int).length : Int)).toNat]'hlt)) := by
          have h1 := Int.emod_nonneg n (b := ((ms.map V.int).length : Int)) (by omega)
          have h2 : (ms.map V.int)[(n % ((ms.map V.int).length : Int)).toNat]? = some (V.int (ms[(n % ((ms.map V.int).length : Int)).toNat]'hlt)) := by
            rw [List.getElem?_map, List.getElem?_eq_getElem hlt]; rfl
          have h3 := atI_nat h2
          rw [Int.toNat_of_nonneg h1] at h3
          exact h3
        refine ⟨_, rfl, d, _, rfl, p2.gC, _, rfl, _, rfl, d, _, rfl, p2.gC, l, _, rfl, .inl (SqL.of p2.ls), _, _, rfl, rfl, hlen', l, _, _, _, rfl, rfl, SqL.of p2.ls, hat, ?_⟩
        refine ⟨_, rfl, _, rfl, d, _, rfl, p2.gC, l, _, rfl, .inl (SqL.of p2.ls), _, _, rfl, rfl, _, rfl, ite2 (fun c2 => ?_) (fun c2 => ?_)⟩
        · refine ⟨_, rfl, _, _, rfl, rfl, ⟨by decide, by decide, pw⟩, _, _, rfl, rfl, _, rfl, ite2 (fun c3 => ?_) (fun c3 => ?_)⟩
          · have hz := of_decide_eq_true c3
            refine ⟨_, rfl, _, _, rfl, rfl, ⟨by decide, by decide, pw⟩, _, _, rfl, rfl, _, rfl, _, _, rfl, rfl, ⟨hm0, hm1⟩, _, rfl, d, _, rfl, p2.pL _, ?_⟩
            refine ⟨_, rfl, _, _, rfl, rfl, ⟨by decide, by decide, pw⟩, _, _, rfl, rfl, _, rfl, _, _, rfl, rfl, hm0, ?_⟩
            exact k _ (n + 1) _ _ (Int.emod_nonneg _ (by omega)) (Int.emod_lt_of_pos _ hm0) (by omega) (Int.le_refl _) (p2.upd' p2.n0 (Int.ediv_nonneg (by omega) (by omega))) fun c o e nc => by
              rw [upd_ne nc]; exact keep c o e nc
          · skip
            refine ⟨_, rfl, _, _, rfl, rfl, (by show (0 : Int) < 2147483549; decide), _, _, rfl, rfl, .inr ⟨by decide, by decide⟩, _, rfl, _, _, rfl, rfl, .inl ⟨by decide, by decide⟩, _, rfl, _, _, rfl, rfl, .inr ⟨by have := p.n0; omega, by omega⟩, _, _, rfl, rfl, _, rfl, _, _, rfl, rfl, .inl ⟨by decide, by decide⟩, _, _, rfl, rfl, _, _, rfl, rfl, _, _, rfl, rfl, (by show (0 : Int) < 2147483647; decide), ?_⟩
            refine ⟨_, rfl, _, rfl, _, _, rfl, rfl, .inl ⟨Int.lt_of_lt_of_le (by decide) (Int.emod_nonneg _ (by decide)), Int.lt_trans (Int.emod_lt_of_pos _ (by decide)) (by decide)⟩, _, rfl, _, _, rfl, rfl, .inl ⟨by decide, by decide⟩, _, _, rfl, rfl, _, _, rfl, rfl, _, _, rfl, rfl, (by show (0 : Int) < 2147483629; decide), ?_⟩
            refine ⟨_, rfl, _, _, rfl, rfl, ⟨by decide, by decide⟩, _, rfl, _, _, rfl, rfl, hm0, ?_⟩
            exact k _ (n + 1) L _ (Int.emod_nonneg _ (by omega)) (Int.emod_lt_of_pos _ hm0) (by omega) (Int.le_refl _) p2 keep
        · skip
          refine ⟨_, rfl, _, _, rfl, rfl, (by show (0 : Int) < 2147483549; decide), _, _, rfl, rfl, .inr ⟨by decide, by decide⟩, _, rfl, _, _, rfl, rfl, .inl ⟨by decide, by decide⟩, _, rfl, _, _, rfl, rfl, .inr ⟨by have := p.n0; omega, by omega⟩, _, _, rfl, rfl, _, rfl, _, _, rfl, rfl, .inl ⟨by decide, by decide⟩, _, _, rfl, rfl, _, _, rfl, rfl, _, _, rfl, rfl, (by show (0 : Int) < 2147483647; decide), ?_⟩
          refine ⟨_, rfl, _, rfl, _, _, rfl, rfl, .inl ⟨Int.lt_of_lt_of_le (by decide) (Int.emod_nonneg _ (by decide)), Int.lt_trans (Int.emod_lt_of_pos _ (by decide)) (by decide)⟩, _, rfl, _, _, rfl, rfl, .inl ⟨by decide, by decide⟩, _, _, rfl, rfl, _, _, rfl, rfl, _, _, rfl, rfl, (by show (0 : Int) < 2147483629; decide), ?_⟩
          refine ⟨_, rfl, _, _, rfl, rfl, ⟨by decide, by decide⟩, _, rfl, _, _, rfl, rfl, hm0, ?_⟩
          exact k _ (n + 1) L _ (Int.emod_nonneg _ (by omega)) (Int.emod_lt_of_pos _ hm0) (by omega) (Int.le_refl _) p2 keep
      · skip
        refine ⟨_, rfl, _, rfl, d, _, rfl, p2.gC, l, _, rfl, .inl (SqL.of p2.ls), _, _, rfl, rfl, _, rfl, ite2 (fun c2 => ?_) (fun c2 => ?_)⟩
        · refine ⟨_, rfl, _, _, rfl, rfl, ⟨by decide, by decide, pw⟩, _, _, rfl, rfl, _, rfl, ite2 (fun c3 => ?_) (fun c3 => ?_)⟩
          · have hz := of_decide_eq_true c3
            refine ⟨_, rfl, _, _, rfl, rfl, ⟨by decide, by decide, pw⟩, _, _, rfl, rfl, _, rfl, _, _, rfl, rfl, ⟨hm0, hm1⟩, _, rfl, d, _, rfl, p2.pL _, ?_⟩
            refine ⟨_, rfl, _, _, rfl, rfl, ⟨by decide, by decide, pw⟩, _, _, rfl, rfl, _, rfl, _, _, rfl, rfl, hm0, ?_⟩
            exact k _ (n + 1) _ _ (Int.emod_nonneg _ (by omega)) (Int.emod_lt_of_pos _ hm0) (by omega) (Int.le_refl _) (p2.upd' p2.n0 (Int.ediv_nonneg (by omega) (by omega))) fun c o e nc => by
              rw [upd_ne nc]; exact keep c o e nc
          · skip
            refine ⟨_, rfl, _, _, rfl, rfl, (by show (0 : Int) < 2147483549; decide), _, _, rfl, rfl, .inr ⟨by decide, by decide⟩, _, rfl, _, _, rfl, rfl, .inl ⟨by decide, by decide⟩, _, rfl, _, _, rfl, rfl, .inr ⟨by have := p.n0; omega, by omega⟩, _, _, rfl, rfl, _, rfl, _, _, rfl, rfl, .inl ⟨by decide, by decide⟩, _, _, rfl, rfl, _, _, rfl, rfl, _, _, rfl, rfl, (by show (0 : Int) < 2147483647; decide), ?_⟩
            refine ⟨_, rfl, _, rfl, _, _, rfl, rfl, .inl ⟨Int.lt_of_lt_of_le (by decide) (Int.emod_nonneg _ (by decide)), Int.lt_trans (Int.emod_lt_of_pos _ (by decide)) (by decide)⟩, _, rfl, _, _, rfl, rfl, .inl ⟨by decide, by decide⟩, _, _, rfl, rfl, _, _, rfl, rfl, _, _, rfl, rfl, (by show (0 : Int) < 2147483629; decide), ?_⟩
            refine ⟨_, rfl, _, _, rfl, rfl, ⟨by decide, by decide⟩, _, rfl, _, _, rfl, rfl, hm0, ?_⟩
            exact k _ (n + 1) L _ (Int.emod_nonneg _ (by omega)) (Int.emod_lt_of_pos _ hm0) (by omega) (Int.le_refl _) p2 keep
        · skip
          refine ⟨_, rfl, _, _, rfl, rfl, (by show (0 : Int) < 2147483549; decide), _, _, rfl, rfl, .inr ⟨by decide, by decide⟩, _, rfl, _, _, rfl, rfl, .inl ⟨by decide, by decide⟩, _, rfl, _, _, rfl, rfl, .inr ⟨by have := p.n0; omega, by omega⟩, _, _, rfl, rfl, _, rfl, _, _, rfl, rfl, .inl ⟨by decide, by decide⟩, _, _, rfl, rfl, _, _, rfl, rfl, _, _, rfl, rfl, (by show (0 : Int) < 2147483647; decide), ?_⟩
          refine ⟨_, rfl, _, rfl, _, _, rfl, rfl, .inl ⟨Int.lt_of_lt_of_le (by decide) (Int.emod_nonneg _ (by decide)), Int.lt_trans (Int.emod_lt_of_pos _ (by decide)) (by decide)⟩, _, rfl, _, _, rfl, rfl, .inl ⟨by decide, by decide⟩, _, _, rfl, rfl, _, _, rfl, rfl, _, _, rfl, rfl, (by show (0 : Int) < 2147483629; decide), ?_⟩
          refine ⟨_, rfl, _, _, rfl, rfl, ⟨by decide, by decide⟩, _, rfl, _, _, rfl, rfl, hm0, ?_⟩
          exact k _ (n + 1) L _ (Int.emod_nonneg _ (by omega)) (Int.emod_lt_of_pos _ hm0) (by omega) (Int.le_refl _) p2 keep
end
end My

set_option Elab.async false
set_option linter.all false
set_option maxRecDepth 100000
set_option maxHeartbeats 4000000
namespace My
open PySem L2
/-! ### isinstance of a tree -/
def tyN : PyData → String
  | .none => "NoneType" | .bool _ => "bool" | .int _ => "int" | .str _ => "str" | .list _ => "list" | .tuple _ => "tuple" | .dict _ => "dict"
def isStr : PyData → Bool
  | .str _ => true | _ => false
def isInt : PyData → Bool
  | .int _ => true | .bool _ => true | _ => false
def isBool : PyData → Bool
  | .bool _ => true | _ => false
def isTup : PyData → Bool
  | .tuple _ => true | _ => false
def isNon : PyData → Bool
  | .none => true | _ => false
def isTy (T : String) (d : PyData) : Bool := if T = "str" then isStr d else if T = "int" then isInt d else if T = "bool" then isBool d else isTup d
section
variable {P : Program} {w : World} {K : PySem.W.Frag} {mg : Str → Option Value} {pB : Heap}
theorem base_ty {H : Hp} {T : V → List PyData → Prop} {v : V} {d : PyData} (ht : ∀ ds, T v ds → ∃ a xs, v = .ref a ∧ H a = some (.tup xs)) (h : base H T v d) : TyX K H v (.type (tyN d)) := by
  cases d with
  | none => rw [show v = .non from h]; exact .base .non
  | bool b => rw [show v = .bl b from h]; exact .base (.bl b)
  | int i => rw [show v = .int i from h]; exact .base (.int i)
  | str x => rw [show v = .str x from h]; exact .base (.str x)
  | list l =>
    obtain ⟨a, xs, rfl, e⟩ := h
    exact .base (.lst e)
  | dict l =>
    obtain ⟨a, rfl, e⟩ := h
    exact .base (.dK e)
  | tuple ds =>
    obtain ⟨a, xs, rfl, e⟩ := ht ds h
    exact .base (.tup e)
theorem Rep.ty {H : Hp} {m : Nat} {v : V} {d : PyData} (h : Rep H m v d) : TyX K H v (.type (tyN d)) := by
  cases m with
  | zero => exact base_ty (fun _ z => z.elim) h
  | succ m => exact base_ty (fun ds ⟨a, xs, e, q, _⟩ => ⟨a, xs, e, q⟩) h
theorem kit_T {T : String} (hT : T = "str" ∨ T = "int" ∨ T = "bool" ∨ T = "tuple") (d : PyData) : kitB (tyN d) T = some (isTy T d) := by
  rcases hT with rfl | rfl | rfl | rfl <;> cases d <;> kernel_rfl
theorem rd_isi {σ : L2.St} {H : Hp} {Q : VK} {i m : Nat} {T : String} {v : V} {d : PyData} (hT : T = "str" ∨ T = "int" ∨ T = "bool" ∨ T = "tuple") (hσ : σ[i]? = some (some v)) (r : Rep H m v d) (h : Q (.bl (isTy T d)) H) :
    tCB (rIsi K) (tCons (tVar i) (tCons (tC (.ty T)) tNil)) σ H Q :=
  ⟨_, hσ, v, .ty T, .type (tyN d), .type T, _, rfl, .ty T, r.ty, kit_ty (kit_T hT d), h⟩
theorem rep_str {H : Hp} {m : Nat} {v : V} {x : Str} (h : Rep H m v (.str x)) : v = .str x := by
  cases m <;> exact h
theorem rep_int {H : Hp} {m : Nat} {v : V} {i : Int} (h : Rep H m v (.int i)) : v = .int i := by
  cases m <;> exact h
theorem rep_none {H : Hp} {m : Nat} {v : V} (h : Rep H m v .none) : v = .non := by
  cases m <;> exact h
theorem rep_tup {H : Hp} {m : Nat} {v : V} {ds : List PyData} (h : Rep H m v (.tuple ds)) : ∃ k a xs, m = k + 1 ∧ v = .ref a ∧ H a = some (.tup xs) ∧ Paired (Rep H k) xs ds := by
  cases m with
  | zero => exact (show False from h).elim
  | succ k =>
    obtain ⟨a, xs, e, q, p⟩ := (show ∃ a xs, v = .ref a ∧ H a = some (.tup xs) ∧ Paired (Rep H k) xs ds from h)
    exact ⟨k, a, xs, rfl, e, q, p⟩
theorem rep_nonn {H : Hp} {m : Nat} {v : V} {d : PyData} (h : Rep H m v d) : decide (v = .non) = isNon d := by
  have key : ∀ T : V → List PyData → Prop, (∀ ds, T v ds → v ≠ .non) → base H T v d → decide (v = .non) = isNon d := by
    intro T ht hb
    cases d with
    | none => rw [show v = .non from hb]; rfl
    | bool b => rw [show v = .bl b from hb]; rfl
    | int i => rw [show v = .int i from hb]; rfl
    | str x => rw [show v = .str x from hb]; rfl
    | list l =>
      obtain ⟨a, xs, rfl, e⟩ := hb
      rfl
    | dict l =>
      obtain ⟨a, rfl, e⟩ := hb
      rfl
    | tuple ds =>
      have := ht ds hb
      rw [decide_eq_false this]; rfl
  cases m with
  | zero => exact key _ (fun _ z => z.elim) h
  | succ m => exact key _ (fun ds ⟨a, xs, e, _⟩ => by rw [e]; intro z; cases z) h
theorem yes_of {σ : L2.St} {H : Hp} {Q : Bool → Hp → Prop} (h : Q true H) : tYes σ H Q := h
/-! ### is_word -/
def wdD : PyData → Bool
  | .str x => isWd x
  | _ => false
def spIsWord : Sp := fun vs H Q _ => ∃ (m : Nat) (v : V) (d : PyData), vs = [v] ∧ Rep H m v d ∧ szD d ≤ 1000000 ∧ ∀ H', Same H H' → Q (.bl (wdD d)) H'
abbrev sIsWord : Stmt := top 17
theorem scIsWord : FnScope ["thing"] ["thing"] (defScope sIsWord) := ⟨rfl, rfl, rfl, by decide +kernel, rfl, by decide +kernel, by decide +kernel⟩
theorem take_snoc {α : Type} {l : List α} {i : Nat} {a : α} (h : l[i]? = some a) : l.take (i + 1) = l.take i ++ [a] := by
  rw [List.take_succ, h]; rfl
theorem sign_let : ∀ c, c < 128 → (Unicode.isAlpha c && !(Unicode.isUpper c || Unicode.isTitle c)) = decide (c ∈ letters) := by decide +kernel
theorem let_sign : ∀ c ∈ letters, c < 128 ∧ Unicode.isAlpha c = true ∧ Unicode.isLower c = true ∧ (Unicode.isUpper c || Unicode.isTitle c) = false := by decide +kernel
/-- letters, small, of the first 128 signs: a word's signs -/
theorem wd_of (x : Str) (h8 : x.length ≤ 8) : (Txt.isalpha x && (Txt.islower x && Txt.isascii x)) = isWd x := by
  have e0 : x.length = x.cps.toList.length := rfl
  unfold Txt.isalpha Txt.islower Txt.isascii isWd
  rw [← Array.all_toList, ← Array.all_toList, ← Array.any_toList, ← Array.any_toList, e0]
  rw [e0] at h8
  generalize x.cps.toList = l at h8
  rw [Bool.eq_iff_iff]
  simp only [Bool.and_eq_true, decide_eq_true_eq, List.all_eq_true, List.any_eq_true, Bool.not_eq_true', List.any_eq_false, Bool.or_eq_true]
  constructor
  · rintro ⟨⟨h0, ha⟩, ⟨_, hu⟩, hs⟩
    refine ⟨⟨h0, h8⟩, fun c hc => ?_⟩
    have h1 := sign_let c (hs c hc)
    have h2 : (Unicode.isUpper c || Unicode.isTitle c) = false := by
      have := hu c hc
      cases h : (Unicode.isUpper c || Unicode.isTitle c)
      · rfl
      · exact absurd ((Bool.or_eq_true _ _).mp h) this
    rw [ha c hc, h2] at h1
    exact of_decide_eq_true h1.symm
  · rintro ⟨⟨h0, _⟩, hl⟩
    have q := fun c hc => let_sign c (hl c hc)
    refine ⟨⟨h0, fun c hc => (q c hc).2.1⟩, ⟨?_, fun c hc z => ?_⟩, fun c hc => (q c hc).1⟩
    · match l, h0, q with
      | c :: r, _, q => exact ⟨c, List.mem_cons_self .., (q c (List.mem_cons_self ..)).2.2.1⟩
    · have := (q c hc).2.2.2
      rw [(Bool.or_eq_true _ _).mpr z] at this
      cases this
theorem ok_isword {f : Addr} {fd : FuncData} {tk : Tok} (F : Fun K "is_word" "is_word" sIsWord f fd) (mI : mg "isinstance" = none) (mS : mg "str" = none) (mLen : mg "len" = none)
    (mM : mg "MOST_LETTERS" = some (.int 8 tk)) : FnOk P w K mg pB CX0 1 f fd ["thing"] spIsWord := by
  refine F.ok scIsWord (fun vs H Q E h => ?_) (fun cdv A outer s H vs Q E hr h => ?_)
  · obtain ⟨m, v, d, rfl, _⟩ := h
    rfl
  · obtain ⟨m, v, d, rfl, hR, hz, k⟩ := h
    have nd := scIsWord.nd
    refine ⟨_, pss_cons (ps_if (PW.pt (pw_or (pt_not (pt_val (pe_callB call_isi (by rfl) mI (by decide +kernel) (pa_cons (pv 0) (pa_cons (pe_bltn (by rfl) mS (by decide +kernel) (show RelV (.ty "str") (.type "str") from rfl)) pa_nil)))))
        (pw_or1 (pt_cmpR op_gt (pe_callB call_len_str (by rfl) mLen PySem.boot_len (pa_cons (pv 0) pa_nil)) (pe_glob (by rfl) mM (show RelV (.int 8) _ from ⟨_, rfl⟩)) (nomark _))))) (pss_one (ps_ret pe_bl)) pss_nil)
      (pss_one (ps_ret (pe_and (pe_bm0 PySem.F.plainAttrs_str PySem.F.slot_str_isalpha PySem.F.type_str_isalpha mt_isalpha (pv 0))
        (pe_and (pe_bm0 PySem.F.plainAttrs_str PySem.F.slot_str_islower PySem.F.type_str_islower mt_islower (pv 0))
          (pe_one (pe_bm0 PySem.F.plainAttrs_str PySem.F.slot_str_isascii PySem.F.type_str_isascii mt_isascii (pv 0))))))), ?_⟩
    refine rd_isi (.inl rfl) rfl hR ⟨_, rfl, ?_⟩
    cases hd : isStr d with
    | false =>
      refine iteB1 (by rw [show isTy "str" d = isStr d from rfl, hd]; rfl) (iteT ?_)
      have e : wdD d = false := by cases d <;> first | rfl | exact absurd hd (by simp [isStr])
      have := k H (Same.refl _)
      rw [e] at this
      exact this
    | true =>
      obtain ⟨x, rfl⟩ : ∃ x, d = .str x := by
        cases d <;> first | exact ⟨_, rfl⟩ | exact absurd hd (by simp [isStr])
      cases rep_str hR
      have hx : x.length ≤ sizeLine := by
        rw [sizeLine_eq]
        rw [szD] at hz
        omega
      refine iteB0 rfl ?_
      refine ⟨_, rfl, x, rfl, hx, _, _, rfl, rfl, _, rfl, ?_⟩
      have kk := k H (Same.refl _)
      by_cases h8 : x.length ≤ 8
      · refine iteN (by show ¬ ((8 : Int) < (x.length : Int)); omega) ?_
        have e : wdD (.str x) = (Txt.isalpha x && (Txt.islower x && Txt.isascii x)) := (wd_of x h8).symm
        rw [e] at kk
        refine ⟨_, rfl, rfl, x, rfl, rfl, trivial, _, rfl, ?_⟩
        cases h1 : Txt.isalpha x with
        | false => rw [h1] at kk; exact iteF kk
        | true =>
          rw [h1] at kk
          refine iteT ⟨_, rfl, rfl, x, rfl, rfl, trivial, _, rfl, ?_⟩
          cases h2 : Txt.islower x with
          | false => rw [h2] at kk; exact iteF kk
          | true =>
            rw [h2] at kk
            exact iteT ⟨_, rfl, rfl, x, rfl, rfl, trivial, kk⟩
      · refine iteY (by show (8 : Int) < (x.length : Int); omega) ?_
        have e : wdD (.str x) = false := by
          show isWd x = false
          unfold isWd
          rw [decide_eq_false (by omega)]; rfl
        rw [e] at kk
        exact kk
end
end My

set_option Elab.async false
set_option linter.all false
set_option maxRecDepth 100000
set_option maxHeartbeats 4000000
namespace My
open PySem L2
section
variable {P : Program} {w : World} {K : PySem.W.Frag} {mg : Str → Option Value} {pB : Heap}
/-! ### the law's own is_word -/
theorem none_out (l : List Nat) : ((l.filter fun c => !decide (c ∈ letters)).map fun c => V.str ⟨#[c]⟩).isEmpty = l.all fun c => decide (c ∈ letters) := by
  induction l with
  | nil => rfl
  | cons c l ih =>
    by_cases h : c ∈ letters
    · rw [List.filter_cons_of_neg (by simp [h]), List.all_cons, ih]; simp [h]
    · rw [List.filter_cons_of_pos (by simp [h])]; simp [h]
/-! ### numbers between two ends -/
def btw (lo hi : Int) : PyData → Bool
  | .int i => decide (lo ≤ i) && decide (i ≤ hi)
  | _ => false
def spBtw : Sp := fun vs H Q _ => ∃ (m : Nat) (v : V) (d : PyData) (lo hi : Int), vs = [v, .int lo, .int hi] ∧ Rep H m v d ∧ Q (.bl (btw lo hi d)) H

abbrev sBtw : Stmt := top 18
theorem sc_between : FnScope ["thing", "least", "most"] ["thing", "least", "most"] (defScope sBtw) := ⟨rfl, rfl, rfl, by decide +kernel, rfl, by decide +kernel, by decide +kernel⟩
theorem ok_between {f : Addr} {fd : FuncData} (F : Fun K "is_between" "is_between" sBtw f fd) (mI : mg "isinstance" = none) (mint : mg "int" = none) (mbool : mg "bool" = none) : FnOk P w K mg pB CX0 1 f fd ["thing", "least", "most"] spBtw := by
  refine F.ok sc_between (fun vs H Q E h => ?_) (fun cdv A outer s H vs Q E hr h => ?_)
  · obtain ⟨m, v, d, lo, hi, rfl, _⟩ := h
    rfl
  · obtain ⟨m, v, d, lo, hi, rfl, hR, k⟩ := h
    refine ⟨_, pss_one (ps_ret (pe_and (pe_callB call_isi (by rfl) mI (by decide +kernel) (pa_cons (pv 0) (pa_cons (pe_bltn (by rfl) mint (by decide +kernel) (show RelV (.ty "int") (.type "int") from rfl)) pa_nil))) (pe_and (pe_not (pe_callB call_isi (by rfl) mI (by decide +kernel) (pa_cons (pv 0) (pa_cons (pe_bltn (by rfl) mbool (by decide +kernel) (show RelV (.ty "bool") (.type "bool") from rfl)) pa_nil)))) (pe_one (pe_chain op_le op_le (pv 1) (pv 0) (pv 2)))))), ?_⟩
    refine rd_isi (.inr (.inl rfl)) rfl hR ⟨_, rfl, ?_⟩
    cases d with
    | int i =>
      refine iteB1 rfl (rd_isi (.inr (.inr (.inl rfl))) rfl hR ⟨_, rfl, _, rfl, iteB1 rfl ?_⟩)
      cases rep_int hR
      refine ⟨_, rfl, _, rfl, _, _, rfl, rfl, _, rfl, ?_⟩
      by_cases c : lo ≤ i
      · refine iteB1 (decide_eq_true c) ⟨_, rfl, _, _, rfl, rfl, ?_⟩
        have := k
        rw [btw, decide_eq_true c] at this
        exact this
      · refine iteB0 (decide_eq_false c) ?_
        have := k
        rw [btw, decide_eq_false c] at this
        exact this
    | bool b => exact iteB1 rfl (rd_isi (.inr (.inr (.inl rfl))) rfl hR ⟨_, rfl, _, rfl, iteB0 rfl k⟩)
    | none => exact iteB0 rfl k
    | str x => exact iteB0 rfl k
    | list l => exact iteB0 rfl k
    | tuple l => exact iteB0 rfl k
    | dict l => exact iteB0 rfl k
end
end My

set_option Elab.async false
set_option linter.all false
set_option maxRecDepth 100000
set_option maxHeartbeats 4000000
namespace My
open PySem L2
section
variable {P : Program} {w : World} {K : PySem.W.Frag} {mg : Str → Option Value} {pB : Heap}
theorem Paired.at {α β : Type} {F : α → β → Prop} : ∀ {xs : List α} {ys : List β} {i : Nat} {x : α}, Paired F xs ys → xs[i]? = some x → ∃ y, ys[i]? = some y ∧ F x y
  | _, _, _, _, .nil, e => by simp at e
  | _, _, 0, _, .cons r _, e => by
    simp at e
    subst e
    exact ⟨_, rfl, r⟩
  | _, _, i + 1, x, .cons _ t, e => by
    obtain ⟨y, h1, h2⟩ := Paired.at (i := i) (x := x) t (by simpa using e)
    exact ⟨y, by simpa using h1, h2⟩
/-- the promise of no call at all -/
def spBot : Sp := fun _ _ _ _ => False
theorem ok_bot {k : Nat} {f : Addr} {fd : FuncData} {ps : List Str} : FnOk P w K mg pB CX0 k f fd ps spBot := ⟨fun _ _ _ _ h => h.elim, fun _ _ _ _ _ _ _ _ _ _ _ _ _ h => h.elim⟩
def spWth (n : Nat) : Sp := fun vs H Q _ => ∃ (m : Nat) (v : V) (d : PyData), vs = [v, .int (n : Int)] ∧ Rep H m v d ∧ szD d ≤ 1000000 ∧ ∀ H', Same H H' → Q (.bl (isW n d)) H'
def spPrev : Nat → Sp
  | 0 => spBot
  | n + 1 => spWth n
theorem leaf_or {d : PyData} (h : ∀ ds, d ≠ .tuple ds) (n : Nat) : isW n d = (isNon d || (wdD d || btw (-1000000000) 1000000000 d)) := by
  rw [isW_leaf h]
  cases d with
  | tuple ds => exact absurd rfl (h ds)
  | int i =>
    show decide _ = (false || (false || (decide _ && decide _)))
    rw [Bool.false_or, Bool.false_or, Bool.decide_and]
  | str x =>
    show isWd x = (false || (isWd x || false))
    rw [Bool.false_or, Bool.or_false]
  | none => rfl
  | bool b => rfl
  | list l => rfl
  | dict l => rfl
abbrev sWth : Stmt := top 20
theorem scWth : FnScope ["thing", "levels", "part"] ["thing", "levels"] (defScope sWth) := ⟨rfl, rfl, rfl, by decide +kernel, rfl, by decide +kernel, by decide +kernel⟩
theorem step_within {f fW fB : Addr} {fd dW dB : FuncData} {tk tk2 : Tok} (F : Fun K "is_worth_within" "is_worth_within" sWth f fd) (n : Nat) (G : FnOk P w K mg pB CX0 (n + 1) f fd ["thing", "levels"] (spPrev n)) (mG : mg "is_worth_within" = some (.ref f)) (bG : Binds K fd ["thing", "levels"] [])
    (GW : FnOk P w K mg pB CX0 1 fW dW ["thing"] spIsWord) (mW : mg "is_word" = some (.ref fW)) (kW : PySem.W.keepIn K (.ref fW) = true) (bW : Binds K dW ["thing"] [])
    (GB : FnOk P w K mg pB CX0 1 fB dB ["thing", "least", "most"] spBtw) (mB : mg "is_between" = some (.ref fB)) (kB : PySem.W.keepIn K (.ref fB) = true) (bB : Binds K dB ["thing", "least", "most"] [])
    (mI : mg "isinstance" = none) (mT : mg "tuple" = none) (mLen : mg "len" = none) (mAll : mg "all" = none) (mF : mg "FARTHEST" = some (.int 1000000000 tk)) (mM : mg "MOST_WORTHS" = some (.int 20 tk2)) :
    FnOk P w K mg pB CX0 (n + 2) f fd ["thing", "levels"] (spWth n) := by
  refine F.ok scWth (fun vs H Q E h => ?_) (fun cdv A outer s H vs Q E hr h => ?_)
  · obtain ⟨m, v, d, rfl, _⟩ := h
    rfl
  · obtain ⟨m, v, d, rfl, hR, hz, k⟩ := h
    have nd := scWth.nd
    have hr1 : Room 1 _ := hr.mono (by omega)
    have pF : ∀ {X : Cx} {p : Pos}, Gl X "FARTHEST" → X.mg "FARTHEST" = some (.int 1000000000 tk) → PE X (.Name "FARTHEST" p) (tC (.int 1000000000)) := fun hg hm => pe_glob hg hm (show RelV (.int 1000000000) _ from ⟨_, rfl⟩)
    refine ⟨_, pss_cons (ps_if (pt_not (pt_val (pe_callB call_isi (by rfl) mI (by decide +kernel) (pa_cons (pv 0) (pa_cons (pe_bltn (by rfl) mT (by decide +kernel) (show RelV (.ty "tuple") (.type "tuple") from rfl)) pa_nil)))))
        (pss_one (ps_ret (pe_or (pe_cmp (pc_isN (pv 0)) rfl) (pe_or (pe_call GW hr1 rfl mW kW bW .nil pass0 (pa_cons (pv 0) pa_nil))
          (pe_one (pe_call GB hr1 rfl mB kB bB .nil pass0 (pa_cons (pv 0) (pa_cons (pe_un un_neg (pF (by rfl) mF)) (pa_cons (pF (by rfl) mF) pa_nil)))))))))  pss_nil)
      (pss_cons (ps_if (PW.pt (pw_or (pt_cmpR op_eq (pv 1) pe_int (nomark _)) (pw_or1 (pt_cmpR op_gt (pe_callB call_len_seq (by rfl) mLen PySem.boot_len (pa_cons (pv 0) pa_nil)) (pe_glob (by rfl) mM (show RelV (.int 20) _ from ⟨_, rfl⟩)) (nomark _)))))
        (pss_one (ps_ret pe_bl)) pss_nil)
      (pss_one (ps_ret (pe_callB (cr_all rfl) (by rfl) mAll (by decide +kernel) (pa_cons
        (pe_lc (own := [("part", 2)]) (g := gName 2) (tt := tYes) (te := tCall (spPrev n) [] E0 (tCons (tVar 2) (tCons (tOp (rI0 fun i j => .int (i - j)) (tVar 1) (tC (.int 1))) tNil))) rfl nd (pi_tup (pv 0))
          (blkOk_by (N := ["thing", "levels", "part"]) (sc := defScope sWth) (by decide +kernel)) (fun _ _ _ _ _ => pg_name (i := 2) nd rfl (Or.inl rfl) (Or.inr rfl)) (fun _ _ _ _ _ => pts_nil)
          (fun _ _ _ _ _ => pe_call G hr rfl mG F.kp bG .nil pass0 (pa_cons (pv 2) (pa_cons (pe_op op_sub (pv 1) pe_int) pa_nil)))) pa_nil))))), ?_⟩
    refine rd_isi (.inr (.inr (.inr rfl))) rfl hR ⟨_, rfl, ?_⟩
    rcases @notTup d with ⟨ds, rfl⟩ | hn
    · refine iteB0 rfl ?_
      obtain ⟨m', a, xs, rfl, rfl, ha, hp⟩ := rep_tup hR
      have hlen := Paired.length hp
      cases n with
      | zero =>
        refine ⟨_, rfl, rfl, _, rfl, iteY rfl (iteT ?_)⟩
        exact k H (Same.refl _)
      | succ n =>
        refine ⟨_, rfl, rfl, _, rfl, iteN (by intro z; have := V.int.inj z; omega) ?_⟩
        refine ⟨_, rfl, a, xs, rfl, .inr (SqT.of ha), _, _, rfl, rfl, _, rfl, ?_⟩
        by_cases h20 : ds.length ≤ 20
        · refine iteB0 (decide_eq_false (by omega)) ?_
          refine ⟨_, rfl, a, rfl, ⟨_, SqT.of ha⟩, fun D hD => ?_⟩
          refine lc_tup (K := K) (xs := xs) (fun i H' => Same H H' ∧ H' D = some (.lst ((ds.take i).map fun e => V.bl (isW n e)))) ⟨Same.new (Same.refl _) hD, upd_same⟩ (fun i H' _ p => SqT.of (p.1 _ _ ha)) (fun i x H' hx p => ?_) (fun H' p => ?_)
          · obtain ⟨p1, p2⟩ := p
            obtain ⟨e, he, hre⟩ := Paired.at hp hx
            have hsz : szD e ≤ 1000000 := by
              have h1 := szL_get he
              rw [szD] at hz
              omega
            refine ⟨rfl, yes_of (iteT ?_)⟩
            refine ⟨_, rfl, _, rfl, _, _, rfl, rfl, m', x, e, ?_, hre.same p1, hsz, fun H2 s2 => ⟨_, s2 _ _ p2, ?_, ?_⟩⟩
            · show [x, V.int (((n + 1 : Nat) : Int) - 1)] = [x, V.int (n : Int)]
              rw [show (((n + 1 : Nat) : Int) - 1) = (n : Int) by omega]
            · rw [List.length_map]
              refine Nat.lt_of_le_of_lt (List.length_take_le' _ _) (Nat.lt_of_le_of_lt h20 (by decide))
            · refine ⟨fun b o ec => ?_, ?_⟩
              · rw [upd_ne (ne_of_none ec hD)]; exact s2 _ _ (p1 b o ec)
              · rw [upd_same, take_snoc he, List.map_append]; rfl
          · obtain ⟨p1, p2⟩ := p
            rw [hlen, List.take_length] at p2
            refine ⟨D, ds.map (isW n), rfl, SqL.of (by rw [p2, List.map_map]; rfl), ?_⟩
            have e2 : isW (n + 1) (.tuple ds) = (ds.map (isW n)).all id := by
              rw [isW, decide_eq_true h20, Bool.true_and, List.all_map]; rfl
            have := k H' p1
            rw [e2] at this
            exact this
        · refine iteB1 (decide_eq_true (by omega)) ?_
          have e2 : isW (n + 1) (.tuple ds) = false := by
            rw [isW, decide_eq_false h20]; rfl
          have := k H (Same.refl _)
          rw [e2] at this
          exact this
    · refine iteB1 (by cases d <;> first | rfl | exact absurd rfl (hn _)) ?_
      refine ⟨_, rfl, _, rfl, ?_⟩
      rw [rep_nonn hR]
      have e0 := leaf_or hn n
      cases hnn : isNon d with
      | true =>
        rw [hnn] at e0
        have := k H (Same.refl _)
        rw [e0] at this
        exact iteT this
      | false =>
        rw [hnn, Bool.false_or] at e0
        refine iteF ⟨_, rfl, m, v, d, rfl, hR, hz, fun H1 s1 => ⟨_, rfl, ?_⟩⟩
        cases hw : wdD d with
        | true =>
          rw [hw] at e0
          have := k H1 s1
          rw [e0] at this
          exact iteT this
        | false =>
          rw [hw, Bool.false_or] at e0
          refine iteF ⟨_, rfl, _, rfl, m, v, d, -1000000000, 1000000000, rfl, hR.same s1, ?_⟩
          have := k H1 s1
          rw [e0] at this
          exact this
theorem ok_within {f fW fB : Addr} {fd dW dB : FuncData} {tk tk2 : Tok} (F : Fun K "is_worth_within" "is_worth_within" sWth f fd) (mG : mg "is_worth_within" = some (.ref f)) (bG : Binds K fd ["thing", "levels"] [])
    (GW : FnOk P w K mg pB CX0 1 fW dW ["thing"] spIsWord) (mW : mg "is_word" = some (.ref fW)) (kW : PySem.W.keepIn K (.ref fW) = true) (bW : Binds K dW ["thing"] [])
    (GB : FnOk P w K mg pB CX0 1 fB dB ["thing", "least", "most"] spBtw) (mB : mg "is_between" = some (.ref fB)) (kB : PySem.W.keepIn K (.ref fB) = true) (bB : Binds K dB ["thing", "least", "most"] [])
    (mI : mg "isinstance" = none) (mT : mg "tuple" = none) (mLen : mg "len" = none) (mAll : mg "all" = none) (mF : mg "FARTHEST" = some (.int 1000000000 tk)) (mM : mg "MOST_WORTHS" = some (.int 20 tk2)) :
    ∀ n, FnOk P w K mg pB CX0 (n + 2) f fd ["thing", "levels"] (spWth n)
  | 0 => step_within F 0 ok_bot mG bG GW mW kW bW GB mB kB bB mI mT mLen mAll mF mM
  | n + 1 => step_within F (n + 1) (ok_within F mG bG GW mW kW bW GB mB kB bB mI mT mLen mAll mF mM n) mG bG GW mW kW bW GB mB kB bB mI mT mLen mAll mF mM
end
end My

set_option Elab.async false
set_option linter.all false
set_option maxRecDepth 100000
set_option maxHeartbeats 4000000
namespace My
open PySem L2
section
variable {P : Program} {w : World} {K : PySem.W.Frag} {mg : Str → Option Value} {pB : Heap}
def spIsWorth : Sp := fun vs H Q _ => ∃ (m : Nat) (v : V) (d : PyData), vs = [v] ∧ Rep H m v d ∧ szD d ≤ 1000000 ∧ ∀ H', Same H H' → Q (.bl (isW 4 d)) H'
abbrev sIsWorth : Stmt := top 19
theorem scIsWorth : FnScope ["thing"] ["thing"] (defScope sIsWorth) := ⟨rfl, rfl, rfl, by decide +kernel, rfl, by decide +kernel, by decide +kernel⟩
theorem ok_isworth {f fG : Addr} {fd dG : FuncData} {tk : Tok} (F : Fun K "is_worth" "is_worth" sIsWorth f fd) (G : FnOk P w K mg pB CX0 6 fG dG ["thing", "levels"] (spWth 4)) (mG : mg "is_worth_within" = some (.ref fG)) (kG : PySem.W.keepIn K (.ref fG) = true) (bG : Binds K dG ["thing", "levels"] [])
    (mL : mg "WORTH_LEVELS" = some (.int 4 tk)) : FnOk P w K mg pB CX0 7 f fd ["thing"] spIsWorth := by
  refine F.ok scIsWorth (fun vs H Q E h => ?_) (fun cdv A outer s H vs Q E hr h => ?_)
  · obtain ⟨m, v, d, rfl, _⟩ := h
    rfl
  · obtain ⟨m, v, d, rfl, hR, hz, k⟩ := h
    refine ⟨_, pss_one (ps_ret (pe_call G hr rfl mG kG bG .nil pass0 (pa_cons (pv 0) (pa_cons (pe_glob (by rfl) mL (show RelV (.int 4) _ from ⟨_, rfl⟩)) pa_nil)))), ?_⟩
    exact ⟨_, rfl, m, v, d, rfl, hR, hz, k⟩
end
end My

set_option Elab.async false
set_option linter.all false
set_option maxRecDepth 100000
set_option maxHeartbeats 4000000
namespace My
open PySem L2
section
variable {P : Program} {w : World} {K : PySem.W.Frag} {mg : Str → Option Value} {pB : Heap}
/-! ### what is drawn -/
/-- behind some drawing: the pen goes on, all else stands -/
structure Dr (H H' : Hp) (d l : Addr) (ms : List Int) (n n' L' b : Int) : Prop where
  kp : Kp d H H'
  pn : Pen H' d l ms n' L'
  lo : n ≤ n'
  hi : n' ≤ n + b
theorem Dr.trans {H H1 H2 : Hp} {d l : Addr} {ms : List Int} {n n1 n2 L1 L2 b c : Int} (x : Dr H H1 d l ms n n1 L1 b) (y : Dr H1 H2 d l ms n1 n2 L2 c) : Dr H H2 d l ms n n2 L2 (b + c) :=
  ⟨x.kp.trans y.kp, y.pn, Int.le_trans x.lo y.lo, by have := x.hi; have := y.hi; omega⟩
theorem Dr.same {H H1 H2 : Hp} {d l : Addr} {ms : List Int} {n n1 L1 b : Int} (x : Dr H H1 d l ms n n1 L1 b) (s : Same H1 H2) : Dr H H2 d l ms n n1 L1 b :=
  ⟨x.kp.trans (Kp.of s), ⟨s _ _ x.pn.dc, s _ _ x.pn.ls, x.pn.n0, x.pn.l0⟩, x.lo, x.hi⟩
theorem Dr.wk {H H1 : Hp} {d l : Addr} {ms : List Int} {n n1 L1 b c : Int} (x : Dr H H1 d l ms n n1 L1 b) (h : b ≤ c) : Dr H H1 d l ms n n1 L1 c := ⟨x.kp, x.pn, x.lo, by have := x.hi; omega⟩
theorem Dr.refl {H : Hp} {d l : Addr} {ms : List Int} {n L : Int} (p : Pen H d l ms n L) : Dr H H d l ms n n L 0 := ⟨Kp.refl _ _, p, Int.le_refl _, by omega⟩
theorem pen_ne (l : Addr) (n L : Int) : pen l n L ≠ [] := by intro z; cases z
theorem Dr.rep {H H1 : Hp} {d l : Addr} {ms : List Int} {n n1 L L1 b : Int} (x : Dr H H1 d l ms n n1 L1 b) (p : Pen H d l ms n L) {k : Nat} {v : V} {t : PyData} (r : Rep H k v t) : Rep H1 k v t := r.keep p.dc (pen_ne _ _ _) x.kp
/-- one draw, read -/
theorem rd_dr {σ : L2.St} {H : Hp} {Q : VK} {i : Nat} {te : TE} {d l : Addr} {ms : List Int} {n L m : Int} (hσ : σ[i]? = some (some (.ref d))) (ht : ∀ Q' : VK, Q' (.int m) H → te σ H Q') (p : Pen H d l ms n L) (hn : n < 2 ^ 40) (h0 : 0 < m) (h1 : m < 1073741824)
    (h : ∀ (r n' L' : Int) (H' : Hp), 0 ≤ r → r < m → Dr H H' d l ms n n' L' 1 → Q (.int r) H') : tCall spDraw [] E0 (tCons (tVar i) (tCons te tNil)) σ H Q :=
  ⟨_, hσ, ht _ ⟨d, l, ms, n, L, m, rfl, p, hn, h0, h1, fun r n' L' H' r0 r1 a b q k => h r n' L' H' r0 r1 ⟨k, q, a, b⟩⟩⟩
def spPick : Sp := fun vs H Q _ => ∃ (d l : Addr) (ms : List Int) (n L : Int) (y : V), vs = [.ref d, y] ∧ Pen H d l ms n L ∧ n < 2 ^ 39 ∧
  ((∃ z : Str, y = .str z ∧ 0 < z.length ∧ z.length ≤ 1000 ∧ ∀ (c : Nat) (n' L' : Int) (H' : Hp), c ∈ z.cps.toList → Dr H H' d l ms n n' L' 1 → Q (.str ⟨#[c]⟩) H') ∨
   ∃ (a : Addr) (xs : List V), y = .ref a ∧ H a = some (.lst xs) ∧ 0 < xs.length ∧ xs.length ≤ 1000 ∧ ∀ (x : V) (n' L' : Int) (H' : Hp), x ∈ xs → Dr H H' d l ms n n' L' 1 → Q x H')
theorem atI_of {α : Type} {xs : List α} {r : Int} (h0 : 0 ≤ r) (h1 : r < (xs.length : Int)) : ∃ x, x ∈ xs ∧ atI xs r = some x ∧ xs[r.toNat]? = some x := by
  have hl : r.toNat < xs.length := by omega
  have e := atI_nat (List.getElem?_eq_getElem hl)
  rw [Int.toNat_of_nonneg h0] at e
  exact ⟨_, List.getElem_mem hl, e, List.getElem?_eq_getElem hl⟩
end
end My

set_option Elab.async false
set_option linter.all false
set_option maxRecDepth 100000
set_option maxHeartbeats 4000000
namespace My
open PySem L2
theorem asg_n {te : TE} {i : Nat} {b : TS} {D : Ends} {σ : L2.St} {H : Hp} (h : te σ H fun x H1 => b D (σ.set i (some x)) H1) : tSeq (tAsg te (gName i)) b D σ H := h
theorem call_of {sp : Sp} {t : TA} {σ : L2.St} {H : Hp} {Q : VK} (h : t σ H fun vs H1 => sp (vs ++ []) H1 Q E0) : tCall sp [] E0 t σ H Q := h
section
variable {P : Program} {w : World} {K : PySem.W.Frag} {mg : Str → Option Value} {pB : Heap}
theorem Dr.upd {H H' : Hp} {d l D : Addr} {ms : List Int} {n n' L L' b : Int} {o : HO} (x : Dr H H' d l ms n n' L' b) (p : Pen H d l ms n L) (hD : H D = none) : Dr H (L2.upd H' D o) d l ms n n' L' b :=
  ⟨fun c u e nc => by rw [upd_ne (ne_of_none e hD)]; exact x.kp c u e nc, ⟨by rw [upd_ne (ne_of_none p.dc hD)]; exact x.pn.dc, by rw [upd_ne (ne_of_none p.ls hD)]; exact x.pn.ls, x.pn.n0, x.pn.l0⟩, x.lo, x.hi⟩
theorem Pen.same {H H' : Hp} {d l : Addr} {ms : List Int} {n L : Int} (p : Pen H d l ms n L) (s : Same H H') : Pen H' d l ms n L := ⟨s _ _ p.dc, s _ _ p.ls, p.n0, p.l0⟩
theorem join0_tl (cs : List Nat) : TL.tl (Txt.join "" (cs.map fun c => (⟨#[c]⟩ : Str))) = cs := by
  rw [TL.join_eq, TL.tl_join, show TL.tl ("" : Str) = [] by decide +kernel]
  have h : ∀ ps : List (List Nat), TL.joinL [] ps = ps.flatten := by
    intro ps
    induction ps with
    | nil => rfl
    | cons p ps ih =>
      cases ps with
      | nil => simp [TL.joinL]
      | cons q r =>
        show p ++ ([] ++ TL.joinL [] (q :: r)) = _
        rw [ih, List.nil_append, List.flatten_cons (l := p)]
  rw [h, List.map_map]
  induction cs with
  | nil => rfl
  | cons c cs ih =>
    rw [List.map_cons, List.flatten_cons, ih]
    rfl
theorem join0_len (cs : List Nat) : (Txt.join "" (cs.map fun c => (⟨#[c]⟩ : Str))).length = cs.length := by
  rw [TL.len_tl, join0_tl]
theorem sum_ones (cs : List Nat) : ((cs.map fun c => (⟨#[c]⟩ : Str)).map (·.length)).sum = cs.length := by
  induction cs with
  | nil => rfl
  | cons c cs ih =>
    rw [List.map_cons, List.map_cons, List.sum_cons, ih, List.length_cons]
    show 1 + cs.length = _
    omega
def wd8 : List Str := ["say", "kept", "none", "a", "z", "abcdefgh", "zzzzzzzz", "post"]
theorem wd8_wd : ∀ x ∈ wd8, isWd x = true := by decide +kernel
theorem wd8_len : ∀ x ∈ wd8, x.length ≤ 8 := by decide +kernel
def spWord : Sp := fun vs H Q _ => ∃ (d l : Addr) (ms : List Int) (n L : Int), vs = [.ref d] ∧ Pen H d l ms n L ∧ n < 2 ^ 38 ∧ ∀ (x : Str) (n' L' : Int) (H' : Hp), x.length ≤ 8 → isWd x = true → Dr H H' d l ms n n' L' 20 → Q (.str x) H'
end
end My

set_option Elab.async false
set_option linter.all false
set_option maxRecDepth 100000
set_option maxHeartbeats 4000000
namespace My
open PySem L2
theorem nxt_of {a b : TS} {D : Ends} {r : VK} {k c : L2.St → Hp → Prop} {σ : L2.St} {H : Hp} (h : tSeq a b D σ H) : tNext { nx := tSeq a b D, rt := r, bk := k, ct := c } σ H := h
section
variable {P : Program} {w : World} {K : PySem.W.Frag} {mg : Str → Option Value} {pB : Heap}
theorem base_mono2 {H H' : Hp} {T T' : V → List PyData → Prop} {v : V} {d : PyData} (hl : ∀ a xs, H a = some (.lst xs) → ∃ xs', H' a = some (.lst xs')) (hd : ∀ a, H a = some (.dK []) → H' a = some (.dK [])) (ht : ∀ ds, T v ds → T' v ds)
    (h : base H T v d) : base H' T' v d := by
  cases d with
  | none => exact h
  | bool b => exact h
  | int i => exact h
  | str x => exact h
  | list ds =>
    obtain ⟨a, xs, e, q⟩ := h
    obtain ⟨xs', q'⟩ := hl a xs q
    exact ⟨a, xs', e, q'⟩
  | dict kvs =>
    obtain ⟨a, e, q⟩ := h
    exact ⟨a, e, hd a q⟩
  | tuple ds => exact ht ds h
/-- a list may grow -/
theorem Rep.updL {H : Hp} {D : Addr} {ys zs : List V} (hD : H D = some (.lst ys)) : ∀ {n : Nat} {v : V} {x : PyData}, Rep H n v x → Rep (L2.upd H D (.lst zs)) n v x := by
  have kl : ∀ a xs, H a = some (.lst xs) → ∃ xs', (L2.upd H D (.lst zs)) a = some (.lst xs') := fun a xs e => by
    by_cases h : a = D
    · exact ⟨zs, by rw [h, upd_same]⟩
    · exact ⟨xs, by rw [upd_ne h]; exact e⟩
  have kd : ∀ a, H a = some (.dK []) → (L2.upd H D (.lst zs)) a = some (.dK []) := fun a e => by
    rw [upd_ne (ne_of e hD (by intro z; cases z))]; exact e
  intro n
  induction n with
  | zero => exact fun h => base_mono2 kl kd (fun _ z => z) h
  | succ n ih => exact fun h => base_mono2 kl kd (fun ds ⟨a, xs, e, q, p⟩ => ⟨a, xs, e, by rw [upd_ne (ne_of q hD (by intro z; cases z))]; exact q, Paired.mapP p fun _ _ z => ih z⟩) h
def bW : Nat → Int
  | 0 => 30
  | k + 1 => 30 + 20 * bW k
theorem bW_pos : ∀ k, 30 ≤ bW k
  | 0 => by decide
  | k + 1 => by have := bW_pos k; rw [bW]; omega
def mny (k : Nat) : Nat := if k = 1 then 20 else 3
def wS : Nat → Nat
  | 0 => 9
  | k + 1 => 9 + mny (k + 1) * wS k
theorem wS_9 : ∀ k, 9 ≤ wS k
  | 0 => by decide
  | k + 1 => by rw [wS]; omega
def spWor (k : Nat) : Sp := fun vs H Q _ => ∃ (d l : Addr) (ms : List Int) (n L : Int), vs = [.ref d, .int (k : Int)] ∧ Pen H d l ms n L ∧ n + bW k ≤ 2 ^ 37 ∧
  ∀ (v : V) (x : PyData) (n' L' : Int) (H' : Hp), Rep H' k v x → szD x ≤ wS k → isW k x = true → Dr H H' d l ms n n' L' (bW k) → Q v H'
def spPrevW : Nat → Sp
  | 0 => spBot
  | k + 1 => spWor k
theorem rep_i {H : Hp} {k : Nat} (i : Int) : Rep H k (.int i) (.int i) := by cases k <;> rfl
theorem rep_s {H : Hp} {k : Nat} (x : Str) : Rep H k (.str x) (.str x) := by cases k <;> rfl
theorem rep_n {H : Hp} {k : Nat} : Rep H k .non .none := by cases k <;> rfl
theorem rep_t {H : Hp} {k : Nat} {a : Addr} {xs : List V} {ds : List PyData} (h : H a = some (.tup xs)) (p : Paired (Rep H k) xs ds) : Rep H (k + 1) (.ref a) (.tuple ds) := ⟨a, xs, rfl, h, p⟩
end
end My

set_option Elab.async false
set_option linter.all false
set_option maxRecDepth 100000
set_option maxHeartbeats 4000000
namespace My
open PySem L2
section
variable {P : Program} {w : World} {K : PySem.W.Frag} {mg : Str → Option Value} {pB : Heap} {σ : L2.St} {H : Hp} {Q : VK} {x y : V}
theorem cons_c {v : V} {tr : TA} {σ : L2.St} {H : Hp} {Q : List V → Hp → Prop} (h : tr σ H fun xs H2 => Q (v :: xs) H2) : tCons (tC v) tr σ H Q := h
theorem rdT0 (h : ∀ p H', Same H H' → H' p = some (.tup []) → Q (.ref p) H') : tTup tNil σ H Q := ⟨by show 0 ≤ sizeLine; decide, fun t ht => h t _ (Same.new (Same.refl _) ht) upd_same⟩
theorem rdT1 (h : ∀ p H', Same H H' → H' p = some (.tup [x]) → Q (.ref p) H') : tTup (tCons (tC x) tNil) σ H Q := ⟨by show 1 ≤ sizeLine; decide, fun t ht => h t _ (Same.new (Same.refl _) ht) upd_same⟩
theorem rdT2 (h : ∀ p H', Same H H' → H' p = some (.tup [x, y]) → Q (.ref p) H') : tTup (tCons (tC x) (tCons (tC y) tNil)) σ H Q := ⟨by show 2 ≤ sizeLine; decide, fun t ht => h t _ (Same.new (Same.refl _) ht) upd_same⟩
theorem rdTT (h : ∀ q p H', Same H H' → H' q = some (.tup [x]) → H' p = some (.tup [.ref q]) → Q (.ref p) H') : tTup (tCons (tTup (tCons (tC x) tNil)) tNil) σ H Q :=
  rdT1 (σ := σ) (Q := fun z H1 => ([z] : List V).length ≤ sizeLine ∧ ∀ p, H1 p = none → Q (.ref p) (upd H1 p (.tup [z]))) fun q H1 s1 e1 => ⟨by show 1 ≤ sizeLine; decide, fun p hp => h q p _ (Same.new s1 hp) ((Same.new (Same.refl _) hp) _ _ e1) upd_same⟩
theorem rdL0 (h : ∀ p H', Same H H' → H' p = some (.lst []) → Q (.ref p) H') : tLst tNil σ H Q := ⟨by show 0 ≤ sizeLine; decide, fun t ht => h t _ (Same.new (Same.refl _) ht) upd_same⟩
theorem rdL2 (h : ∀ p H', Same H H' → H' p = some (.lst [x, y]) → Q (.ref p) H') : tLst (tCons (tC x) (tCons (tC y) tNil)) σ H Q := ⟨by show 2 ≤ sizeLine; decide, fun t ht => h t _ (Same.new (Same.refl _) ht) upd_same⟩
theorem rdLT (h : ∀ q p H', Same H H' → H' p = some (.lst [.ref q]) → Q (.ref p) H') : tLst (tCons (tTup (tCons (tC x) tNil)) tNil) σ H Q :=
  rdT1 (σ := σ) (Q := fun z H1 => ([z] : List V).length ≤ sizeLine ∧ ∀ p, H1 p = none → Q (.ref p) (upd H1 p (.lst [z]))) fun q H1 s1 e1 => ⟨by show 1 ≤ sizeLine; decide, fun p hp => h q p _ (Same.new s1 hp) upd_same⟩
theorem rdD (h : ∀ p H', Same H H' → H' p = some (.dK []) → Q (.ref p) H') : tDNewK σ H Q := fun t ht => h t _ (Same.new (Same.refl _) ht) upd_same
def oddV (p0 p1 p2 p3 p4 p5 p6 p7 : Addr) : List V :=
  [.non, .bl true, .bl false, .int (-1), .int 6, .int 1001, .int 1000000001, .int (-1000000001), .int (10 ^ (30 : Int).toNat), .str "", .str "A", .str "abcdefghi", .str "a b", .str "-",
   .str "say ", .ref p0, .ref p1, .ref p2, .ref p3, .ref p4, .ref p5, .ref p6, .ref p7, .str "echo", .int 0, .int 5, .int 1000, .str "a"]
def oddX : List PyData :=
  [.none, .bool true, .bool false, .int (-1), .int 6, .int 1001, .int 1000000001, .int (-1000000001), .int (10 ^ (30 : Int).toNat), .str "", .str "A", .str "abcdefghi", .str "a b", .str "-",
   .str "say ", .tuple [], .tuple [.str "say"], .tuple [.str "echo", .str "a"], .list [], .list [], .dict [], .tuple [.tuple [.str "echo"]], .list [], .str "echo", .int 0, .int 5, .int 1000, .str "a"]
theorem rep_b {H : Hp} {k : Nat} (b : Bool) : Rep H k (.bl b) (.bool b) := by cases k <;> rfl
theorem rep_l {H : Hp} {k : Nat} {a : Addr} {xs : List V} (h : H a = some (.lst xs)) : Rep H k (.ref a) (.list []) := by cases k <;> exact ⟨a, xs, rfl, h⟩
theorem rep_d {H : Hp} {k : Nat} {a : Addr} (h : H a = some (.dK [])) : Rep H k (.ref a) (.dict []) := by cases k <;> exact ⟨a, rfl, h⟩
theorem odd_pair {H : Hp} {p0 p1 p2 p3 p4 p5 p6 p7 q6 : Addr} {a3 a4 a7 : List V} (h0 : H p0 = some (.tup [])) (h1 : H p1 = some (.tup [.str "say"])) (h2 : H p2 = some (.tup [.str "echo", .str "a"])) (h3 : H p3 = some (.lst a3)) (h4 : H p4 = some (.lst a4)) (h5 : H p5 = some (.dK []))
    (g6 : H q6 = some (.tup [.str "echo"])) (h6 : H p6 = some (.tup [.ref q6])) (h7 : H p7 = some (.lst a7)) : Paired (fun v x => Rep H 2 v x ∧ szD x ≤ 20) (oddV p0 p1 p2 p3 p4 p5 p6 p7) oddX := by
  have S : ∀ x : Str, x.length ≤ 10 → Rep H 2 (.str x) (.str x) ∧ szD (.str x) ≤ 20 := fun x hx => ⟨rep_s x, by rw [szD]; omega⟩
  have I : ∀ i : Int, Rep H 2 (.int i) (.int i) ∧ szD (.int i) ≤ 20 := fun i => ⟨rep_i i, show 1 ≤ 20 by decide⟩
  refine .cons ⟨rep_n, by decide +kernel⟩ (.cons ⟨rep_b _, by decide +kernel⟩ (.cons ⟨rep_b _, by decide +kernel⟩ (.cons (I _) (.cons (I _) (.cons (I _) (.cons (I _) (.cons (I _) (.cons (I _) (.cons (S _ (by decide +kernel)) (.cons (S _ (by decide +kernel)) (.cons (S _ (by decide +kernel)) (.cons (S _ (by decide +kernel)) (.cons (S _ (by decide +kernel)) (.cons (S _ (by decide +kernel)) ?_))))))))))))))
  refine .cons ⟨rep_t h0 .nil, by decide +kernel⟩ (.cons ⟨rep_t h1 (.cons (rep_s _) .nil), by decide +kernel⟩ (.cons ⟨rep_t h2 (.cons (rep_s _) (.cons (rep_s _) .nil)), by decide +kernel⟩ (.cons ⟨rep_l h3, by decide +kernel⟩ (.cons ⟨rep_l h4, by decide +kernel⟩ (.cons ⟨rep_d h5, by decide +kernel⟩
    (.cons ⟨rep_t h6 (.cons (rep_t g6 (.cons (rep_s _) .nil)) .nil), by decide +kernel⟩ (.cons ⟨rep_l h7, by decide +kernel⟩ (.cons (S _ (by decide +kernel)) (.cons (I _) (.cons (I _) (.cons (I _) (.cons (S _ (by decide +kernel)) .nil))))))))))))
def spOdd : Sp := fun vs H Q _ => ∃ (d l : Addr) (ms : List Int) (n L : Int), vs = [.ref d] ∧ Pen H d l ms n L ∧ n < 2 ^ 39 ∧ ∀ (v : V) (x : PyData) (n' L' : Int) (H' : Hp), Rep H' 2 v x → szD x ≤ 20 → Dr H H' d l ms n n' L' 1 → Q v H'
end
end My

set_option Elab.async false
set_option linter.all false
set_option maxRecDepth 100000
set_option maxHeartbeats 4000000
namespace My
open PySem L2
section
variable {P : Program} {w : World} {K : PySem.W.Frag} {mg : Str → Option Value} {pB : Heap}
theorem pTake {α β : Type} {F : α → β → Prop} : ∀ {xs : List α} {ys : List β} (n : Nat), Paired F xs ys → Paired F (xs.take n) (ys.take n)
  | _, _, 0, _ => .nil
  | _, _, _ + 1, .nil => .nil
  | _, _, n + 1, .cons r t => .cons r (pTake n t)
theorem pDrop {α β : Type} {F : α → β → Prop} : ∀ {xs : List α} {ys : List β} (n : Nat), Paired F xs ys → Paired F (xs.drop n) (ys.drop n)
  | _, _, 0, r => r
  | _, _, _ + 1, .nil => .nil
  | _, _, n + 1, .cons _ t => pDrop n t
theorem pApp {α β : Type} {F : α → β → Prop} : ∀ {xs us : List α} {ys ws : List β}, Paired F xs ys → Paired F us ws → Paired F (xs ++ us) (ys ++ ws)
  | _, _, _, _, .nil, s => s
  | _, _, _, _, .cons r t, s => .cons r (pApp t s)
theorem pRev {α β : Type} {F : α → β → Prop} : ∀ {xs : List α} {ys : List β}, Paired F xs ys → Paired F xs.reverse ys.reverse
  | _, _, .nil => .nil
  | _, _, .cons r t => by
    rw [List.reverse_cons, List.reverse_cons]
    exact pApp (pRev t) (.cons r .nil)
theorem rd_cat {H : Hp} {Q : VK} {a b : Addr} {xs ys : List V} (ha : H a = some (.tup xs)) (hb : H b = some (.tup ys)) (hz : xs.length + ys.length ≤ sizeLine) (h : ∀ p H', Same H H' → H' p = some (.tup (xs ++ ys)) → Q (.ref p) H') : rCatA K (.ref a) (.ref b) H Q := by
  refine ⟨a, b, xs, ys, rfl, rfl, SqT.of ha, SqT.of hb, hz, fun e => ?_, fun _ e => ?_, fun _ _ p hp => h p _ (Same.new (Same.refl _) hp) upd_same⟩
  · exact h b H (Same.refl _) (by rw [hb, e]; rfl)
  · exact h a H (Same.refl _) (by rw [ha, e, List.append_nil])
theorem rd_slT {H : Hp} {Q : VK} {a : Addr} {xs : List V} {lo hi : Option Int} (ha : H a = some (.tup xs)) (h : ∀ p H', Same H H' → H' p = some (.tup (cutV xs lo hi)) → Q (.ref p) H') : rSlA K (.ref a) lo hi H Q := by
  refine ⟨a, xs, rfl, SqT.of ha, fun e => h a H (Same.refl _) ?_, fun _ p hp => h p _ (Same.new (Same.refl _) hp) upd_same⟩
  rw [ha]
  unfold cutV
  rw [e.1, e.2, List.drop_zero, Nat.sub_zero, List.take_length]
theorem cut_to (xs : List V) {k : Int} (h0 : 0 ≤ k) (h1 : k ≤ xs.length) : cutV xs none (some k) = xs.take k.toNat := by
  unfold cutV
  rw [HT.sIx_none, List.drop_zero, Nat.sub_zero]
  have e : HT.sIx xs.length xs.length (some k) = k.toNat := by
    show (if k < 0 then _ else min k.toNat xs.length) = _
    rw [if_neg (by omega)]; omega
  rw [e]
theorem cut_from (xs : List V) {k : Int} (h0 : 0 ≤ k) (h1 : k ≤ xs.length) : cutV xs (some k) none = xs.drop k.toNat := by
  unfold cutV
  have e : HT.sIx xs.length 0 (some k) = k.toNat := by
    show (if k < 0 then _ else min k.toNat xs.length) = _
    rw [if_neg (by omega)]; omega
  rw [HT.sIx_none, e, List.take_of_length_le]
  rw [List.length_drop]; omega
theorem szL_at {ds : List PyData} {i : Nat} {e : PyData} (h : ds[i]? = some e) : szL ds = szL (ds.take i) + szD e + szL (ds.drop (i + 1)) := by
  have hl : i < ds.length := (List.getElem?_eq_some_iff.mp h).1
  have e1 : ds.drop i = e :: ds.drop (i + 1) := by
    rw [List.drop_eq_getElem_cons hl]
    rw [List.getElem?_eq_getElem hl] at h
    rw [Option.some.inj h]
  rw [← szL_td ds i, e1, szL]; omega
theorem par_of {ta : TA} {i j : Nat} {b : TS} {D : Ends} {σ : L2.St} {H : Hp} (h : ta σ H fun vs H1 => ∃ v w, vs = [v, w] ∧ b D ((σ.set i (some v)).set j (some w)) H1) : tSeq (tPar i j ta) b D σ H := h
theorem np_of {σ : L2.St} {H : Hp} {Q : Option Int → Hp → Prop} (h : Q none H) : tNoPart σ H Q := h
theorem nxt_r {b : TS} {D : Ends} {σ : L2.St} {H : Hp} (h : b D σ H) : tNext { D with nx := b D } σ H := h
def bB (m : Nat) : Int := 10 * ((m : Int) + 1)
def spBent (m : Nat) : Sp := fun vs H Q _ => ∃ (d l : Addr) (ms : List Int) (n L : Int) (v : V) (x : PyData), vs = [.ref d, v] ∧ Pen H d l ms n L ∧ n + bB m < 2 ^ 39 ∧ Rep H m v x ∧ szD x ≤ 1000000 ∧
  ∀ (v' : V) (x' : PyData) (n' L' : Int) (H' : Hp), Rep H' (m + 2) v' x' → szD x' ≤ 2 * szD x + 20 → Dr H H' d l ms n n' L' (bB m) → Q v' H'
def spPrevB : Nat → Sp
  | 0 => spBot
  | m + 1 => spBent m
end
end My

set_option Elab.async false
set_option linter.all false
set_option maxRecDepth 100000
set_option maxHeartbeats 4000000
namespace My
open PySem L2
/-! ### what a script is -/
/-- the kinds of a deed's parts -/
inductive Kd
  | w | k | r | e | i | v | n | S | s
  deriving DecidableEq
def kname : Kd → Str
  | .w => "word" | .k => "count" | .r => "rank" | .e => "gap" | .i => "due" | .v => "worth" | .n => "names" | .S => "script" | .s => "perhaps"
def ksign : Kd → Nat
  | .w => 119 | .k => 107 | .r => 114 | .e => 101 | .i => 105 | .v => 118 | .n => 110 | .S => 83 | .s => 115
def formL : List (Str × List Kd) :=
  [("say", [.w]), ("echo", []), ("spend", [.k]), ("post", [.r, .w, .S]), ("micro", [.S]), ("after", [.k, .r, .w, .S]), ("every", [.e, .r, .w, .S]), ("idle", [.i, .w, .S]), ("stop", [.w]), ("rerank", [.w, .r]),
   ("make", [.w]), ("keep", [.w, .v]), ("pass", [.w]), ("break", [.w, .w]), ("follow", [.w, .w]), ("then", [.w, .w, .s, .s]), ("all", [.w, .n]), ("any", [.w, .n]), ("first", [.w, .n]), ("each", [.w, .n]), ("give", [.v]),
   ("fail", [.w]), ("guard", [.S, .s, .S]), ("if", [.w, .S, .S]), ("wait", [.w]), ("run", [.w]), ("story", [.w, .S]), ("cancel", [.w]), ("yield", [.r]), ("call", [.w])]
def formOf (x : Str) : Option (List Kd) := (formL.find? fun p => decide (p.1 = x)).map (·.2)
def nmD : PyData → Bool
  | .tuple ds => decide (ds.length ≤ 8) && ds.all wdD
  | _ => false
def partOk : Kd → PyData → Bool
  | .w, d => wdD d
  | .k, d => btw 0 1000 d
  | .r, d => btw 0 5 d
  | .e, d => btw 1 1000 d
  | .i, d => isNon d || btw 0 1000 d
  | .v, d => isW 4 d
  | .n, d => nmD d
  | _, _ => false
def isScr : Kd → Bool
  | .S => true
  | .s => true
  | _ => false
/-- how many deeds a part has, by what a script has in it -/
def partB (f : PyData → Option Nat) (k : Kd) (d : PyData) : Option Nat :=
  if isScr k = true then (if k = .s ∧ isNon d = true then some 0 else f d) else if partOk k d = true then some 0 else none
def sumO : List (Option Nat) → Option Nat
  | [] => some 0
  | none :: _ => none
  | some a :: l => (sumO l).map (a + ·)
def deedB (f : PyData → Option Nat) : PyData → Option Nat
  | .tuple (.str x :: ps) => match formOf x with
    | some ks => if ps.length = ks.length then sumO (List.zipWith (partB f) ks ps) else none
    | none => none
  | _ => none
def cnt : Nat → PyData → Option Nat
  | 0, _ => none
  | n + 1, .tuple ds => (sumO (ds.map (deedB (cnt n)))).map (ds.length + ·)
  | _ + 1, _ => none
section
variable {P : Program} {w : World} {K : PySem.W.Frag} {mg : Str → Option Value} {pB : Heap}
def spTest (t : PyData → Bool) : Sp := fun vs H Q _ => ∃ (m : Nat) (v : V) (d : PyData), vs = [v] ∧ Rep H m v d ∧ szD d ≤ 1000000 ∧ ∀ H', Same H H' → Q (.bl (t d)) H'
abbrev sNames : Stmt := top 21
theorem scNames : FnScope ["thing", "name"] ["thing"] (defScope sNames) := ⟨rfl, rfl, rfl, by decide +kernel, rfl, by decide +kernel, by decide +kernel⟩
theorem ok_names {f fW : Addr} {fd dW : FuncData} {tk2 : Tok} (F : Fun K "is_names" "is_names" sNames f fd)
    (GW : FnOk P w K mg pB CX0 1 fW dW ["thing"] spIsWord) (mW : mg "is_word" = some (.ref fW)) (kW : PySem.W.keepIn K (.ref fW) = true) (bW : Binds K dW ["thing"] [])
    (mI : mg "isinstance" = none) (mT : mg "tuple" = none) (mLen : mg "len" = none) (mAll : mg "all" = none) (mM : mg "MOST_NAMES" = some (.int 8 tk2)) : FnOk P w K mg pB CX0 2 f fd ["thing"] (spTest nmD) := by
  refine F.ok scNames (fun vs H Q E h => ?_) (fun cdv A outer s H vs Q E hr h => ?_)
  · obtain ⟨m, v, d, rfl, _⟩ := h
    rfl
  · obtain ⟨m, v, d, rfl, hR, hz, k⟩ := h
    have nd := scNames.nd
    refine ⟨_, pss_cons (ps_if (PW.pt (pw_or (pt_not (pt_val (pe_callB call_isi (by rfl) mI (by decide +kernel) (pa_cons (pv 0) (pa_cons (pe_bltn (by rfl) mT (by decide +kernel) (show RelV (.ty "tuple") (.type "tuple") from rfl)) pa_nil)))))
          (pw_or1 (pt_cmpR op_gt (pe_callB call_len_seq (by rfl) mLen PySem.boot_len (pa_cons (pv 0) pa_nil)) (pe_glob (by rfl) mM (show RelV (.int 8) _ from ⟨_, rfl⟩)) (nomark _)))))
        (pss_one (ps_ret pe_bl)) pss_nil)
      (pss_one (ps_ret (pe_callB (cr_all rfl) (by rfl) mAll (by decide +kernel) (pa_cons
        (pe_lc (own := [("name", 1)]) (g := gName 1) (tt := tYes) (te := tCall spIsWord [] E0 (tCons (tVar 1) tNil)) rfl nd (pi_tup (pv 0))
          (blkOk_by (N := ["thing", "name"]) (sc := defScope sNames) (by decide +kernel)) (fun _ _ _ _ _ => pg_name (i := 1) nd rfl (Or.inl rfl) (Or.inr rfl)) (fun _ _ _ _ _ => pts_nil)
          (fun _ _ _ _ _ => pe_call GW hr rfl mW kW bW .nil pass0 (pa_cons (pv 1) pa_nil))) pa_nil)))), ?_⟩
    refine rd_isi (.inr (.inr (.inr rfl))) rfl hR ⟨_, rfl, ?_⟩
    rcases @notTup d with ⟨ds, rfl⟩ | hn
    · refine iteB0 rfl ?_
      obtain ⟨m', a, xs, rfl, rfl, ha, hp⟩ := rep_tup hR
      have hlen := Paired.length hp
      refine ⟨_, rfl, a, xs, rfl, .inr (SqT.of ha), _, _, rfl, rfl, _, rfl, ?_⟩
      by_cases h8 : ds.length ≤ 8
      · refine iteB0 (decide_eq_false (by omega)) ?_
        refine ⟨_, rfl, a, rfl, ⟨_, SqT.of ha⟩, fun D hD => ?_⟩
        refine lc_tup (K := K) (xs := xs) (fun i H' => Same H H' ∧ H' D = some (.lst ((ds.take i).map fun e => V.bl (wdD e)))) ⟨Same.new (Same.refl _) hD, upd_same⟩ (fun i H' _ p => SqT.of (p.1 _ _ ha)) (fun i x H' hx p => ?_) (fun H' p => ?_)
        · obtain ⟨p1, p2⟩ := p
          obtain ⟨e, he, hre⟩ := Paired.at hp hx
          have hsz : szD e ≤ 1000000 := by
            have h1 := szL_get he
            rw [szD] at hz
            omega
          refine ⟨rfl, yes_of (iteT ?_)⟩
          refine ⟨_, rfl, m', x, e, rfl, hre.same p1, hsz, fun H2 s2 => ⟨_, s2 _ _ p2, ?_, ?_⟩⟩
          · rw [List.length_map]
            refine Nat.lt_of_le_of_lt (List.length_take_le' _ _) (Nat.lt_of_le_of_lt h8 (by decide))
          · refine ⟨fun b o ec => ?_, ?_⟩
            · rw [upd_ne (ne_of_none ec hD)]; exact s2 _ _ (p1 b o ec)
            · rw [upd_same, take_snoc he, List.map_append]; rfl
        · obtain ⟨p1, p2⟩ := p
          rw [hlen, List.take_length] at p2
          refine ⟨D, ds.map wdD, rfl, SqL.of (by rw [p2, List.map_map]; rfl), ?_⟩
          have e2 : nmD (.tuple ds) = (ds.map wdD).all id := by
            rw [nmD, decide_eq_true h8, Bool.true_and, List.all_map]; rfl
          have := k H' p1
          rw [e2] at this
          exact this
      · refine iteB1 (decide_eq_true (by omega)) ?_
        have e2 : nmD (.tuple ds) = false := by
          rw [nmD, decide_eq_false h8]; rfl
        have := k H (Same.refl _)
        rw [e2] at this
        exact this
    · refine iteB1 (by cases d <;> first | rfl | exact absurd rfl (hn _)) (iteT ?_)
      have e2 : nmD d = false := by cases d <;> first | rfl | exact absurd rfl (hn _)
      have := k H (Same.refl _)
      rw [e2] at this
      exact this
abbrev sRank : Stmt := top 22
abbrev sCount : Stmt := top 23
abbrev sGap : Stmt := top 24
abbrev sDue : Stmt := top 25
theorem scRank : FnScope ["thing"] ["thing"] (defScope sRank) := ⟨rfl, rfl, rfl, by decide +kernel, rfl, by decide +kernel, by decide +kernel⟩
theorem scCount : FnScope ["thing"] ["thing"] (defScope sCount) := ⟨rfl, rfl, rfl, by decide +kernel, rfl, by decide +kernel, by decide +kernel⟩
theorem scGap : FnScope ["thing"] ["thing"] (defScope sGap) := ⟨rfl, rfl, rfl, by decide +kernel, rfl, by decide +kernel, by decide +kernel⟩
theorem scDue : FnScope ["thing"] ["thing"] (defScope sDue) := ⟨rfl, rfl, rfl, by decide +kernel, rfl, by decide +kernel, by decide +kernel⟩
theorem ok_rank {f fB : Addr} {fd dB : FuncData} {tk : Tok} (F : Fun K "is_rank" "is_rank" sRank f fd)
    (GB : FnOk P w K mg pB CX0 1 fB dB ["thing", "least", "most"] spBtw) (mB : mg "is_between" = some (.ref fB)) (kB : PySem.W.keepIn K (.ref fB) = true) (bB : Binds K dB ["thing", "least", "most"] []) (mM : mg "LAST_RANK" = some (.int 5 tk)) : FnOk P w K mg pB CX0 2 f fd ["thing"] (spTest (btw 0 5)) := by
  refine F.ok scRank (fun vs H Q E h => ?_) (fun cdv A outer s H vs Q E hr h => ?_)
  · obtain ⟨m, v, d, rfl, _⟩ := h
    rfl
  · obtain ⟨m, v, d, rfl, hR, hz, k⟩ := h
    refine ⟨_, pss_one (ps_ret (pe_call GB hr rfl mB kB bB .nil pass0 (pa_cons (pv 0) (pa_cons pe_int (pa_cons (pe_glob (by rfl) mM (show RelV (.int 5) _ from ⟨_, rfl⟩)) pa_nil))))), ?_⟩
    exact ⟨_, rfl, m, v, d, 0, 5, rfl, hR, k H (Same.refl _)⟩
theorem ok_count {f fB : Addr} {fd dB : FuncData} {tk : Tok} (F : Fun K "is_count" "is_count" sCount f fd)
    (GB : FnOk P w K mg pB CX0 1 fB dB ["thing", "least", "most"] spBtw) (mB : mg "is_between" = some (.ref fB)) (kB : PySem.W.keepIn K (.ref fB) = true) (bB : Binds K dB ["thing", "least", "most"] []) (mM : mg "MOST_COUNT" = some (.int 1000 tk)) : FnOk P w K mg pB CX0 2 f fd ["thing"] (spTest (btw 0 1000)) := by
  refine F.ok scCount (fun vs H Q E h => ?_) (fun cdv A outer s H vs Q E hr h => ?_)
  · obtain ⟨m, v, d, rfl, _⟩ := h
    rfl
  · obtain ⟨m, v, d, rfl, hR, hz, k⟩ := h
    refine ⟨_, pss_one (ps_ret (pe_call GB hr rfl mB kB bB .nil pass0 (pa_cons (pv 0) (pa_cons pe_int (pa_cons (pe_glob (by rfl) mM (show RelV (.int 1000) _ from ⟨_, rfl⟩)) pa_nil))))), ?_⟩
    exact ⟨_, rfl, m, v, d, 0, 1000, rfl, hR, k H (Same.refl _)⟩
theorem ok_gap {f fB : Addr} {fd dB : FuncData} {tk : Tok} (F : Fun K "is_gap" "is_gap" sGap f fd)
    (GB : FnOk P w K mg pB CX0 1 fB dB ["thing", "least", "most"] spBtw) (mB : mg "is_between" = some (.ref fB)) (kB : PySem.W.keepIn K (.ref fB) = true) (bB : Binds K dB ["thing", "least", "most"] []) (mM : mg "MOST_COUNT" = some (.int 1000 tk)) : FnOk P w K mg pB CX0 2 f fd ["thing"] (spTest (btw 1 1000)) := by
  refine F.ok scGap (fun vs H Q E h => ?_) (fun cdv A outer s H vs Q E hr h => ?_)
  · obtain ⟨m, v, d, rfl, _⟩ := h
    rfl
  · obtain ⟨m, v, d, rfl, hR, hz, k⟩ := h
    refine ⟨_, pss_one (ps_ret (pe_call GB hr rfl mB kB bB .nil pass0 (pa_cons (pv 0) (pa_cons pe_int (pa_cons (pe_glob (by rfl) mM (show RelV (.int 1000) _ from ⟨_, rfl⟩)) pa_nil))))), ?_⟩
    exact ⟨_, rfl, m, v, d, 1, 1000, rfl, hR, k H (Same.refl _)⟩
theorem ok_due {f fC : Addr} {fd dC : FuncData} (F : Fun K "is_due" "is_due" sDue f fd)
    (GC : FnOk P w K mg pB CX0 2 fC dC ["thing"] (spTest (btw 0 1000))) (mC : mg "is_count" = some (.ref fC)) (kC : PySem.W.keepIn K (.ref fC) = true) (bC : Binds K dC ["thing"] []) : FnOk P w K mg pB CX0 3 f fd ["thing"] (spTest fun d => isNon d || btw 0 1000 d) := by
  refine F.ok scDue (fun vs H Q E h => ?_) (fun cdv A outer s H vs Q E hr h => ?_)
  · obtain ⟨m, v, d, rfl, _⟩ := h
    rfl
  · obtain ⟨m, v, d, rfl, hR, hz, k⟩ := h
    refine ⟨_, pss_one (ps_ret (pe_or (pe_cmp (pc_isN (pv 0)) rfl) (pe_one (pe_call GC hr rfl mC kC bC .nil pass0 (pa_cons (pv 0) pa_nil))))), ?_⟩
    refine ⟨_, rfl, _, rfl, ?_⟩
    rw [rep_nonn hR]
    cases hnn : isNon d with
    | true =>
      have : Q (.bl (isNon d || btw 0 1000 d)) H := k H (Same.refl _)
      rw [hnn] at this
      exact iteT this
    | false =>
      refine iteF ⟨_, rfl, m, v, d, rfl, hR, hz, fun H1 s1 => ?_⟩
      have : Q (.bl (isNon d || btw 0 1000 d)) H1 := k H1 s1
      rw [hnn, Bool.false_or] at this
      exact this
end
end My

set_option Elab.async false
set_option linter.all false
set_option maxRecDepth 100000
set_option maxHeartbeats 4000000
namespace My
open PySem L2
section
variable {P : Program} {w : World} {K : PySem.W.Frag} {mg : Str → Option Value} {pB : Heap}
/-- the module's table of deeds -/
structure Deeds (K : PySem.W.Frag) (w : World) (mg : Str → Option Value) (dA : Addr) (es : Array DictEntry) (n : Nat) : Prop where
  m : mg "DEEDS" = some (.ref dA)
  kd : KDict K w dA es n
  at_ : ∀ x ks, formOf x = some ks → ∃ t, PySem.W.nsIn K dA x = some (some (.ref t)) ∧ ∀ H, SqT K H t (ks.map fun k => V.str (kname k))
  no : ∀ x, formOf x = none → PySem.W.nsIn K dA x = some none
theorem Deeds.get {dA : Addr} {es : Array DictEntry} {n : Nat} (D : Deeds K w mg dA es n) {x : Str} {ks : List Kd} (h : formOf x = some ks) : ∃ t, PySem.W.nsIn K dA x = some (some (.ref t)) ∧ KDct K w dA x (.ref t) ∧ ∀ H, SqT K H t (ks.map fun k => V.str (kname k)) := by
  obtain ⟨t, e, hs⟩ := D.at_ x ks h
  exact ⟨t, e, ⟨es, n, .ref t, D.kd.at_, D.kd.lit, e, rfl⟩, hs⟩
def hasF : PyData → Bool
  | .tuple (.str x :: ps) => match formOf x with
    | some ks => decide (ps.length = ks.length)
    | none => false
  | _ => false
theorem rd_isiX {H : Hp} {Q : VK} {m : Nat} {T : String} {v : V} {d : PyData} (hT : T = "str" ∨ T = "int" ∨ T = "bool" ∨ T = "tuple") (r : Rep H m v d) (h : Q (.bl (isTy T d)) H) : rIsi K [v, .ty T] H Q := ⟨v, .ty T, .type (tyN d), .type T, _, rfl, .ty T, r.ty, kit_ty (kit_T hT d), h⟩
end
end My

set_option Elab.async false
set_option linter.all false
set_option maxRecDepth 100000
set_option maxHeartbeats 4000000
namespace My
open PySem L2
section
variable {P : Program} {w : World} {K : PySem.W.Frag} {mg : Str → Option Value} {pB : Heap}
/-- the module's table of checks -/
structure Checks (P : Program) (w : World) (K : PySem.W.Frag) (mg : Str → Option Value) (pB : Heap) (cA : Addr) : Prop where
  m : mg "CHECKS" = some (.ref cA)
  at_ : ∀ k, isScr k = false → ∃ f, KDct K w cA (kname k) (.ref f) ∧ C8.CalAt P w K mg pB 7 f (spTest (partOk k))
def spFits : Sp := fun vs H Q _ => ∃ (m : Nat) (v : V) (d : PyData) (k : Kd), vs = [.str (kname k), v] ∧ isScr k = false ∧ Rep H m v d ∧ szD d ≤ 1000000 ∧ ∀ H', Same H H' → Q (.bl (partOk k d)) H'
abbrev sFits : Stmt := top 30
theorem scFits : FnScope ["kind", "part", "check"] ["kind", "part"] (defScope sFits) := ⟨rfl, rfl, rfl, by decide +kernel, rfl, by decide +kernel, by decide +kernel⟩
theorem ok_fits {f cA : Addr} {fd : FuncData} (F : Fun K "fits" "fits" sFits f fd) (C : Checks P w K mg pB cA) : FnOk P w K mg pB CX0 8 f fd ["kind", "part"] spFits := by
  refine F.ok scFits (fun vs H Q E h => ?_) (fun cdv A outer s H vs Q E hr h => ?_)
  · obtain ⟨m, v, d, k, rfl, _⟩ := h
    rfl
  · obtain ⟨m, v, d, kd, rfl, hk, hR, hz, k⟩ := h
    have nd := scFits.nd
    refine ⟨_, pss_cons (ps_set (i := 2) nd rfl (Or.inl rfl) (pe_ix ix_kdict (pe_glob (by rfl) C.m (show RelV (.ref cA) _ from rfl)) (pv 0) (fun _ _ => rfl)))
      (pss_one (ps_ret (pe_cvA (Ok := fun f sp => C8.CalAt P w K mg pB 7 f sp) (i := 2) (fun f sp h => h) hr rfl (Or.inl rfl) (pa_cons (pv 1) pa_nil)))), ?_⟩
    obtain ⟨f, e1, e2⟩ := C.at_ kd hk
    refine asg_n ⟨_, rfl, cA, _, .ref f, rfl, rfl, e1, ?_⟩
    exact ⟨f, _, rfl, e2, _, rfl, m, v, d, rfl, hR, hz, k⟩
end
end My

set_option Elab.async false
set_option linter.all false
set_option maxRecDepth 100000
set_option maxHeartbeats 4000000
namespace My
open PySem L2
section
variable {P : Program} {w : World} {K : PySem.W.Frag} {mg : Str → Option Value} {pB : Heap}
def resV (o : Option Nat) (room : Int) : V := match o with
  | some c => if (c : Int) ≤ room then .int (room - c) else .non
  | none => .non
def spRoom (n : Nat) : Sp := fun vs H Q _ => ∃ (m : Nat) (v : V) (d : PyData) (room : Int), vs = [v, .int (n : Int), .int room] ∧ Rep H m v d ∧ szD d ≤ 1000000 ∧ 0 ≤ room ∧ ∀ H', Same H H' → Q (resV (cnt n d) room) H'
def spRoomD (n : Nat) : Sp := fun vs H Q _ => ∃ (m : Nat) (v : V) (x : Str) (ps : List PyData) (ks : List Kd) (room : Int), vs = [v, .int (n : Int), .int room] ∧ formOf x = some ks ∧ Rep H m v (.tuple (.str x :: ps)) ∧ szD (.tuple (.str x :: ps)) ≤ 1000000 ∧ 0 ≤ room ∧ ∀ H', Same H H' → Q (resV (deedB (cnt n) (.tuple (.str x :: ps))) room) H'
theorem sumO_app : ∀ (as bs : List (Option Nat)), sumO (as ++ bs) = match sumO as with | some a => (sumO bs).map (a + ·) | none => none
  | [], bs => by
    show sumO bs = (sumO bs).map (0 + ·)
    cases sumO bs <;> simp
  | none :: as, bs => rfl
  | some a :: as, bs => by
    show (sumO (as ++ bs)).map (a + ·) = match (sumO as).map (a + ·) with | some a => (sumO bs).map (a + ·) | none => none
    rw [sumO_app as bs]
    cases sumO as with
    | none => rfl
    | some c =>
      show ((sumO bs).map (c + ·)).map (a + ·) = (sumO bs).map (a + c + ·)
      cases sumO bs with
      | none => rfl
      | some e => show some (a + (c + e)) = some (a + c + e); rw [Nat.add_assoc]
/-- what stops in the middle stops the whole -/
theorem sumO_stop {l : List (Option Nat)} {j c : Nat} {o : Option Nat} {room : Int} (hj : l[j]? = some o) (hc : sumO (l.take j) = some c) (ho : ∀ e, o = some e → room < (c + e : Int)) : resV (sumO l) room = .non := by
  have hl : j < l.length := (List.getElem?_eq_some_iff.mp hj).1
  have e1 : l = l.take j ++ (o :: l.drop (j + 1)) := by
    rw [List.getElem?_eq_getElem hl] at hj
    rw [← Option.some.inj hj, ← List.drop_eq_getElem_cons hl, List.take_append_drop]
  rw [e1, sumO_app, hc]
  cases o with
  | none => rfl
  | some e =>
    show resV (((sumO (l.drop (j + 1))).map (e + ·)).map (c + ·)) room = .non
    cases sumO (l.drop (j + 1)) with
    | none => rfl
    | some g =>
      have := ho e rfl
      show (if ((c + (e + g) : Nat) : Int) ≤ room then _ else _) = _
      rw [if_neg (by omega)]
theorem sumO_snoc {l : List (Option Nat)} {j c e : Nat} (hj : l[j]? = some (some e)) (hc : sumO (l.take j) = some c) : sumO (l.take (j + 1)) = some (c + e) := by
  rw [take_snoc hj, sumO_app, hc]
  rfl
abbrev sRoomD : Stmt := top 29
theorem aug_n {te : TE} {ti : TIp} {i : Nat} {b : TS} {D : Ends} {σ : L2.St} {H : Hp} (h : ∃ x, σ[i]? = some (some x) ∧ te σ H fun y H1 => ti x y H1 fun z H2 => b D (σ.set i (some z)) H2) : tSeq (tAug i te ti) b D σ H := h
theorem scRoomD : FnScope ["deed", "levels", "room", "kinds", "at", "kind", "part"] ["deed", "levels", "room"] (defScope sRoomD) := ⟨rfl, rfl, rfl, by decide +kernel, rfl, by decide +kernel, by decide +kernel⟩
theorem step_roomD {f fW fF fR dA : Addr} {fd dW dF dR : FuncData} {es : Array DictEntry} {nn : Nat} (F : Fun K "room_behind_parts" "room_behind_parts" sRoomD f fd) (n : Nat) (D : Deeds K w mg dA es nn)
    (GW : FnOk P w K mg pB CX0 1 fW dW ["thing"] spIsWord) (mW : mg "is_word" = some (.ref fW)) (kW : PySem.W.keepIn K (.ref fW) = true) (bW' : Binds K dW ["thing"] [])
    (GF : FnOk P w K mg pB CX0 8 fF dF ["kind", "part"] spFits) (mF : mg "fits" = some (.ref fF)) (kF : PySem.W.keepIn K (.ref fF) = true) (bF : Binds K dF ["kind", "part"] [])
    (GR : FnOk P w K mg pB CX0 (10 + 2 * n) fR dR ["thing", "levels", "room"] (spRoom n)) (mR : mg "room_behind" = some (.ref fR)) (kR : PySem.W.keepIn K (.ref fR) = true) (bR : Binds K dR ["thing", "levels", "room"] [])
    (mLen : mg "len" = none) : FnOk P w K mg pB CX0 (11 + 2 * n) f fd ["deed", "levels", "room"] (spRoomD n) := by
  rw [show 11 + 2 * n = (10 + 2 * n) + 1 by omega]
  refine F.ok scRoomD (fun vs H Q E h => ?_) (fun cdv A outer s H vs Q E hr h => ?_)
  · obtain ⟨m, v, x, ps, ks, room, rfl, _⟩ := h
    rfl
  · obtain ⟨m, v, x, ps, ks, room, rfl, hfm, hR, hz, h0, k⟩ := h
    have nd := scRoomD.nd
    have hr1 : Room 1 _ := hr.mono (by omega)
    have hr8 : Room 8 _ := hr.mono (by omega)
    have pD : ∀ {X : Cx} {p : Pos}, Gl X "DEEDS" → X.mg "DEEDS" = some (.ref dA) → PE X (.Name "DEEDS" p) (tC (.ref dA)) := fun hg hm => pe_glob hg hm (show RelV (.ref dA) _ from rfl)
    refine ⟨_, pss_cons (ps_set (i := 3) nd rfl (Or.inl rfl) (pe_ix ix_kdict (pD (by rfl) D.m) (pe_ix ix_tup (pv 0) pe_int (fun _ _ => rfl)) (fun _ _ => rfl)))
      (pss_cons (ps_if (pt_cmpR op_ne (pe_callB call_len_seq (by rfl) mLen PySem.boot_len (pa_cons (pv 0) pa_nil)) (pe_op op_add pe_int (pe_callB call_len_seq (by rfl) mLen PySem.boot_len (pa_cons (pv 3) pa_nil))) (nomark _)) (pss_one (ps_ret pe_non)) pss_nil)
      (pss_cons (ps_set (i := 4) nd rfl (Or.inl rfl) pe_int)
      (pss_cons (ps_for PassesOwn.never rfl (pi_tup (pv 3)) (pg_name (i := 5) nd rfl (Or.inl rfl))
        (pss_cons (ps_aug (i := 4) nd rfl (.inl rfl) pe_int ip_add)
        (pss_cons (ps_set (i := 6) nd rfl (Or.inl rfl) (pe_ix ix_tup (pv 0) (pv 4) (fun _ _ => rfl)))
        (pss_one (ps_if (pt_cmpR op_eq (pv 5) pe_str (nomark _))
          (pss_one (ps_if (pt_not (pt_val (pe_call GW hr1 rfl mW kW bW' .nil pass0 (pa_cons (pv 6) pa_nil)))) (pss_one (ps_ret pe_non)) pss_nil))
          (pss_one (ps_if (PW.pt (pw_or (pt_cmpR op_eq (pv 5) pe_str (nomark _)) (pw_or1 (PW.pt (pw_and (pt_cmpR op_eq (pv 5) pe_str (nomark _)) (pw_and1 (pt_cmp (pc_notN (pv 6)))))))))
            (pss_cons (ps_set (i := 2) nd rfl (Or.inl rfl) (pe_call GR hr rfl mR kR bR .nil pass0 (pa_cons (pv 6) (pa_cons (pv 1) (pa_cons (pv 2) pa_nil))))) (pss_one (ps_if (pt_cmp (pc_isN (pv 2))) (pss_one (ps_ret pe_non)) pss_nil)))
            (pss_one (ps_if (PW.pt (pw_and (pt_cmpR op_ne (pv 5) pe_str (nomark _)) (pw_and1 (pt_not (pt_val (pe_call GF hr8 rfl mF kF bF .nil pass0 (pa_cons (pv 5) (pa_cons (pv 6) pa_nil)))))))) (pss_one (ps_ret pe_non)) pss_nil)))))))))
      (pss_one (ps_ret (pv 2)))))), ?_⟩
    obtain ⟨m', a, xs, rfl, e9, ha, hp⟩ := rep_tup hR
    have hzs : szL ps ≤ 1000000 := by
      rw [szD, szL] at hz
      omega
    cases hp with
    | @cons y0 e0' us ps' hx0 hpu =>
    cases rep_str hx0
    have hlu := Paired.length hpu
    obtain ⟨t, e1, e2, e3⟩ := D.get hfm
    subst e9
    refine asg_n ⟨_, rfl, a, _, 0, _, rfl, rfl, SqT.of ha, atI_nat (xs := V.str x :: us) (j := 0) (v := .str x) rfl, dA, x, .ref t, rfl, rfl, e2, ?_⟩
    refine ⟨_, rfl, a, _, rfl, .inr (SqT.of ha), _, rfl, t, _, rfl, .inr (e3 H), _, _, rfl, rfl, rfl, _, rfl, ?_⟩
    have ed : deedB (cnt n) (.tuple (.str x :: ps)) = if ps.length = ks.length then sumO (List.zipWith (partB (cnt n)) ks ps) else none := by
      show (match formOf x with | some ks => if ps.length = ks.length then sumO (List.zipWith (partB (cnt n)) ks ps) else none | none => none) = _
      rw [hfm]
    by_cases hlen : ps.length = ks.length
    case neg =>
      refine iteB1 ?_ ?_
      · rw [List.length_cons, List.length_map]
        show (!decide _) = true
        rw [decide_eq_false]; · rfl
        intro z
        have := V.int.inj z
        omega
      · have := k H (Same.refl _)
        rw [ed, if_neg hlen] at this
        exact this
    have e0 : deedB (cnt n) (.tuple (.str x :: ps)) = sumO (List.zipWith (partB (cnt n)) ks ps) := by rw [ed, if_pos hlen]
    rw [e0] at k
    refine iteB0 ?_ (nxt_of ?_)
    · rw [List.length_cons, List.length_map]
      show (!decide _) = false
      rw [decide_eq_true]; · rfl
      congr 1
      omega
    refine asg_n ?_
    refine ⟨_, rfl, t, rfl, ⟨_, e3 H⟩, for_tup (xs := ks.map fun k => V.str (kname k)) (fun j σ H3 => ∃ (c : Nat) (x4 x5 : Option V), σ = [some (.ref a), some (.int (n : Int)), some (.int (room - (c : Int))), some (.ref t), some (.int (j : Nat)), x4, x5] ∧ Same H H3 ∧ sumO ((List.zipWith (partB (cnt n)) ks ps).take j) = some c ∧ (c : Int) ≤ room) ?_ ?_ ?_ ?_⟩
    · refine ⟨0, none, none, ?_, Same.refl _, rfl, h0⟩
      rw [show room - ((0 : Nat) : Int) = room by omega]
      rfl
    · rintro j σ H3 _ ⟨c, x4, x5, rfl, s3, _⟩
      exact e3 H3
    · rintro j y σ H3 hy ⟨c, x4, x5, rfl, s3, hc, hcr⟩
      rw [List.getElem?_map] at hy
      obtain ⟨kd, hkd, rfl⟩ := Option.map_eq_some_iff.mp hy
      have hj : j < ks.length := (List.getElem?_eq_some_iff.mp hkd).1
      have hu : us[j]? = some us[j] := List.getElem?_eq_getElem (by omega)
      generalize us[j] = u at hu
      obtain ⟨e, he, hre⟩ := Paired.at hpu hu
      have hre3 := hre.same s3
      have hsz : szD e ≤ 1000000 := Nat.le_trans (szL_get he) hzs
      have hL : (List.zipWith (partB (cnt n)) ks ps)[j]? = some (partB (cnt n) kd e) := by
        rw [List.getElem?_zipWith, hkd, he]
      have hat : atI (V.str x :: us) ((j : Nat) + 1 : Int) = some u := by
        have := atI_nat (xs := V.str x :: us) (j := j + 1) (v := u) (by rw [List.getElem?_cons_succ]; exact hu)
        simpa using this
      have h3 : SqT K H3 a (V.str x :: us) := SqT.of (s3 _ _ ha)
      have t1 : decide (V.str (kname kd) = V.str "word") = decide (kd = .w) := by cases kd <;> decide +kernel
      have t3 : decide (V.str (kname kd) = V.str "script") = decide (kd = .S) := by cases kd <;> decide +kernel
      have t4 : decide (V.str (kname kd) = V.str "perhaps") = decide (kd = .s) := by cases kd <;> decide +kernel
      have stop : ∀ H', Same H3 H' → (∀ g, partB (cnt n) kd e = some g → room < (c + g : Int)) → Q .non H' := fun H' s' hg => by
        have := k H' (s3.trans s')
        rw [sumO_stop hL hc hg] at this
        exact this
      have done0 : ∀ H4, Same H3 H4 → partB (cnt n) kd e = some 0 → ∃ (c' : Nat) (x4 x5 : Option V), [some (V.ref a), some (.int (n : Int)), some (.int (room - (c : Int))), some (.ref t), some (.int ((j : Nat) + 1)), some (.str (kname kd)), some u] = [some (V.ref a), some (.int (n : Int)), some (.int (room - (c' : Int))), some (.ref t), some (.int ((j + 1 : Nat) : Int)), x4, x5] ∧ Same H H4 ∧ sumO ((List.zipWith (partB (cnt n)) ks ps).take (j + 1)) = some c' ∧ (c' : Int) ≤ room := fun H4 s4 h0' =>
        ⟨c, _, _, rfl, s3.trans s4, by have := sumO_snoc (e := 0) (by rw [hL, h0']) hc; simpa using this, hcr⟩
      refine aug_n ⟨_, rfl, _, _, rfl, rfl, ?_⟩
      refine asg_n ⟨_, rfl, _, rfl, a, _, _, u, rfl, rfl, h3, hat, ?_⟩
      refine ⟨_, rfl, rfl, _, rfl, ?_⟩
      by_cases hw : kd = .w
      · have hpB : partB (cnt n) kd e = if wdD e = true then some 0 else none := by rw [hw]; rfl
        refine iteB1 (by rw [t1]; exact decide_eq_true hw) ⟨_, rfl, m', u, e, rfl, hre3, hsz, fun H4 s4 => ⟨_, rfl, ?_⟩⟩
        rcases Bool.eq_false_or_eq_true (wdD e) with ho | ho
        · exact iteB0 (by rw [ho]; rfl) (done0 H4 s4 (by rw [hpB, if_pos ho]))
        · exact iteB1 (by rw [ho]; rfl) (stop H4 s4 fun g hg => by rw [hpB, if_neg (by rw [ho]; decide)] at hg; cases hg)
      · refine iteB0 (by rw [t1]; exact decide_eq_false hw) ?_
        refine ⟨_, rfl, rfl, _, rfl, ?_⟩
        by_cases hS : kd = .S
        · have hpB : partB (cnt n) kd e = cnt n e := by rw [partB, if_pos (by rw [hS]; rfl), if_neg (fun z => by rw [hS] at z; cases z.1)]
          refine iteB1 (by rw [t3]; exact decide_eq_true hS) (iteT ?_)
          refine asg_n (call_of ⟨_, rfl, _, rfl, _, rfl, m', u, e, room - (c : Int), rfl, hre3, hsz, by omega, fun H4 s4 => ?_⟩)
          cases hce : cnt n e with
          | none => exact ⟨_, rfl, _, rfl, iteT (stop H4 s4 fun g hg => by rw [hpB, hce] at hg; cases hg)⟩
          | some g =>
            by_cases hg : (g : Int) ≤ room - (c : Int)
            · have e1 : resV (some g) (room - (c : Int)) = .int (room - (c : Int) - g) := if_pos hg
              rw [e1]
              refine ⟨_, rfl, _, rfl, iteF ?_⟩
              refine ⟨c + g, some (.str (kname kd)), some u, ?_, s3.trans s4, sumO_snoc (by rw [hL, hpB, hce]) hc, by omega⟩
              rw [show room - ((c + g : Nat) : Int) = room - (c : Int) - (g : Int) by omega]
              rfl
            · have e1 : resV (some g) (room - (c : Int)) = .non := if_neg hg
              rw [e1]
              exact ⟨_, rfl, _, rfl, iteT (stop H4 s4 fun g' hg' => by rw [hpB, hce] at hg'; cases hg'; omega)⟩
        · refine iteB0 (by rw [t3]; exact decide_eq_false hS) ?_
          refine ⟨_, rfl, rfl, _, rfl, ?_⟩
          by_cases hs : kd = .s
          · have hk : isScr kd = true := by rw [hs]; rfl
            refine iteB1 (by rw [t4]; exact decide_eq_true hs) ?_
            refine ⟨_, rfl, _, rfl, ?_⟩
            rw [rep_nonn hre3]
            rcases Bool.eq_false_or_eq_true (isNon e) with hn | hn
            · refine iteB0 (by rw [hn]; rfl) ?_
              refine ⟨_, rfl, rfl, _, rfl, iteB0 (by rw [t4, decide_eq_true hs]; rfl) ?_⟩
              exact iteF (done0 H3 (Same.refl _) (by rw [partB, if_pos hk, if_pos ⟨hs, hn⟩]))
            · have hpB : partB (cnt n) kd e = cnt n e := by rw [partB, if_pos hk, if_neg (fun z => by rw [hn] at z; cases z.2)]
              refine iteB1 (by rw [hn]; rfl) ?_
              refine asg_n (call_of ⟨_, rfl, _, rfl, _, rfl, m', u, e, room - (c : Int), rfl, hre3, hsz, by omega, fun H4 s4 => ?_⟩)
              cases hce : cnt n e with
              | none => exact ⟨_, rfl, _, rfl, iteT (stop H4 s4 fun g hg => by rw [hpB, hce] at hg; cases hg)⟩
              | some g =>
                by_cases hg : (g : Int) ≤ room - (c : Int)
                · have e1 : resV (some g) (room - (c : Int)) = .int (room - (c : Int) - g) := if_pos hg
                  rw [e1]
                  refine ⟨_, rfl, _, rfl, iteF ?_⟩
                  refine ⟨c + g, some (.str (kname kd)), some u, ?_, s3.trans s4, sumO_snoc (by rw [hL, hpB, hce]) hc, by omega⟩
                  rw [show room - ((c + g : Nat) : Int) = room - (c : Int) - (g : Int) by omega]
                  rfl
                · have e1 : resV (some g) (room - (c : Int)) = .non := if_neg hg
                  rw [e1]
                  exact ⟨_, rfl, _, rfl, iteT (stop H4 s4 fun g' hg' => by rw [hpB, hce] at hg'; cases hg'; omega)⟩
          · have hk : isScr kd = false := by cases kd <;> first | rfl | exact absurd rfl hS | exact absurd rfl hs
            have hpB : partB (cnt n) kd e = if partOk kd e = true then some 0 else none := by rw [partB, if_neg (by rw [hk]; decide)]
            refine iteB0 (by rw [t4]; exact decide_eq_false hs) (iteF ?_)
            refine ⟨_, rfl, rfl, _, rfl, iteB1 (by rw [t4, decide_eq_false hs]; rfl) ⟨_, rfl, _, rfl, m', u, e, kd, rfl, hk, hre3, hsz, fun H4 s4 => ⟨_, rfl, ?_⟩⟩⟩
            rcases Bool.eq_false_or_eq_true (partOk kd e) with ho | ho
            · exact iteB0 (by rw [ho]; rfl) (done0 H4 s4 (by rw [hpB, if_pos ho]))
            · exact iteB1 (by rw [ho]; rfl) (stop H4 s4 fun g hg => by rw [hpB, if_neg (by rw [ho]; decide)] at hg; cases hg)
    · rintro σ H3 ⟨c, x4, x5, rfl, s3, hc, hcr⟩
      have hfull : (List.zipWith (partB (cnt n)) ks ps).take (ks.map fun k => V.str (kname k)).length = List.zipWith (partB (cnt n)) ks ps := by
        rw [List.take_of_length_le]
        rw [List.length_zipWith, List.length_map]
        omega
      rw [hfull] at hc
      refine ⟨_, rfl, ?_⟩
      have := k H3 s3
      rw [hc] at this
      have e1 : resV (some c) room = .int (room - c) := if_pos hcr
      rw [e1] at this
      exact this
end
end My

set_option Elab.async false
set_option linter.all false
set_option maxRecDepth 100000
set_option maxHeartbeats 4000000
namespace My
open PySem L2
section
variable {P : Program} {w : World} {K : PySem.W.Frag} {mg : Str → Option Value} {pB : Heap}
def spPrevD : Nat → Sp
  | 0 => spBot
  | n + 1 => spRoomD n
abbrev sRoom : Stmt := top 28
theorem scRoom : FnScope ["thing", "levels", "room", "deed"] ["thing", "levels", "room"] (defScope sRoom) := ⟨rfl, rfl, rfl, by decide +kernel, rfl, by decide +kernel, by decide +kernel⟩
theorem resV_add {l : Nat} {o : Option Nat} {room : Int} (h : (l : Int) ≤ room) : resV (o.map (l + ·)) room = resV o (room - l) := by
  cases o with
  | none => rfl
  | some c =>
    show (if ((l + c : Nat) : Int) ≤ room then V.int (room - ((l + c : Nat) : Int)) else .non) = (if (c : Int) ≤ room - l then V.int (room - l - c) else .non)
    by_cases hc : (c : Int) ≤ room - l
    · rw [if_pos hc, if_pos (by omega)]
      congr 1
      omega
    · rw [if_neg hc, if_neg (by omega)]
theorem resV_big {l : Nat} {o : Option Nat} {room : Int} (h : ¬ (l : Int) ≤ room) : resV (o.map (l + ·)) room = .non := by
  cases o with
  | none => rfl
  | some c =>
    show (if ((l + c : Nat) : Int) ≤ room then V.int (room - ((l + c : Nat) : Int)) else .non) = .non
    rw [if_neg (by omega)]
theorem step_room {f fD dA : Addr} {fd dD : FuncData} {es : Array DictEntry} {nn : Nat} (F : Fun K "room_behind" "room_behind" sRoom f fd) (n : Nat) (D : Deeds K w mg dA es nn)
    (GD : FnOk P w K mg pB CX0 (9 + 2 * n) fD dD ["deed", "levels", "room"] (spPrevD n)) (mD : mg "room_behind_parts" = some (.ref fD)) (kD : PySem.W.keepIn K (.ref fD) = true) (bD : Binds K dD ["deed", "levels", "room"] [])
    (mI : mg "isinstance" = none) (mT : mg "tuple" = none) (mS : mg "str" = none) (mLen : mg "len" = none) : FnOk P w K mg pB CX0 (10 + 2 * n) f fd ["thing", "levels", "room"] (spRoom n) := by
  rw [show 10 + 2 * n = (9 + 2 * n) + 1 by omega]
  refine F.ok scRoom (fun vs H Q E h => ?_) (fun cdv A outer s H vs Q E hr h => ?_)
  · obtain ⟨m, v, d, room, rfl, _⟩ := h
    rfl
  · obtain ⟨m, v, d, room, rfl, hR, hz, h0, k⟩ := h
    have nd := scRoom.nd
    have pD : ∀ {X : Cx} {p : Pos}, Gl X "DEEDS" → X.mg "DEEDS" = some (.ref dA) → PE X (.Name "DEEDS" p) (tC (.ref dA)) := fun hg hm => pe_glob hg hm (show RelV (.ref dA) _ from rfl)
    refine ⟨_, pss_cons (ps_if (PW.pt (pw_or (pt_not (pt_val (pe_callB call_isi (by rfl) mI (by decide +kernel) (pa_cons (pv 0) (pa_cons (pe_bltn (by rfl) mT (by decide +kernel) (show RelV (.ty "tuple") (.type "tuple") from rfl)) pa_nil)))))
        (pw_or (pt_cmpR op_eq (pv 1) pe_int (nomark _)) (pw_or1 (pt_cmpR op_gt (pe_callB call_len_seq (by rfl) mLen PySem.boot_len (pa_cons (pv 0) pa_nil)) (pv 2) (nomark _))))))
        (pss_one (ps_ret pe_non)) pss_nil)
      (pss_cons (ps_aug (i := 2) nd rfl (.inl rfl) (pe_callB call_len_seq (by rfl) mLen PySem.boot_len (pa_cons (pv 0) pa_nil)) ip_sub)
      (pss_cons (ps_for PassesOwn.never rfl (pi_tup (pv 0)) (pg_name (i := 3) nd rfl (Or.inl rfl))
        (pss_cons (ps_if (PW.pt (pw_or (pt_not (pt_val (pe_callB call_isi (by rfl) mI (by decide +kernel) (pa_cons (pv 3) (pa_cons (pe_bltn (by rfl) mT (by decide +kernel) (show RelV (.ty "tuple") (.type "tuple") from rfl)) pa_nil)))))
          (pw_or (pt_not (pt_truth (pv 3) (by intro _; rfl)))
          (pw_or (pt_not (pt_val (pe_callB call_isi (by rfl) mI (by decide +kernel) (pa_cons (pe_ix ix_tup (pv 3) pe_int (fun _ _ => rfl)) (pa_cons (pe_bltn (by rfl) mS (by decide +kernel) (show RelV (.ty "str") (.type "str") from rfl)) pa_nil)))))
          (pw_or1 (pt_cmpR (op_notIn_kd D.kd) (pe_ix ix_tup (pv 3) pe_int (fun _ _ => rfl)) (pD (by rfl) D.m) (by rfl)))))))
          (pss_one (ps_ret pe_non)) pss_nil)
        (pss_cons (ps_set (i := 2) nd rfl (Or.inl rfl) (pe_call GD hr rfl mD kD bD .nil pass0 (pa_cons (pv 3) (pa_cons (pe_op op_sub (pv 1) pe_int) (pa_cons (pv 2) pa_nil)))))
          (pss_one (ps_if (pt_cmp (pc_isN (pv 2))) (pss_one (ps_ret pe_non)) pss_nil)))))
      (pss_one (ps_ret (pv 2))))), ?_⟩
    have out : resV (cnt n d) room = .non → Q .non H := fun e => by
      have := k H (Same.refl _)
      rw [e] at this
      exact this
    refine rd_isi (.inr (.inr (.inr rfl))) rfl hR ⟨_, rfl, ?_⟩
    rcases @notTup d with ⟨ds, rfl⟩ | hn
    · refine iteB0 rfl ?_
      obtain ⟨m', a, xs, rfl, rfl, ha, hp⟩ := rep_tup hR
      have hlen := Paired.length hp
      cases n with
      | zero => exact ⟨_, rfl, rfl, _, rfl, iteY rfl (iteT (out rfl))⟩
      | succ n =>
        refine ⟨_, rfl, rfl, _, rfl, iteN (by intro z; have := V.int.inj z; omega) ?_⟩
        refine ⟨_, rfl, a, xs, rfl, .inr (SqT.of ha), _, rfl, _, _, rfl, rfl, _, rfl, ?_⟩
        by_cases hl : (ds.length : Int) ≤ room
        · refine iteB0 (decide_eq_false (by omega)) (nxt_of (aug_n ?_))
          refine ⟨_, rfl, _, rfl, a, xs, rfl, .inr (SqT.of ha), _, _, rfl, rfl, ?_⟩
          have k' : ∀ H', Same H H' → Q (resV (sumO (ds.map (deedB (cnt n)))) (room - ds.length)) H' := fun H' s' => by
            have := k H' s'
            rw [cnt, resV_add hl] at this
            exact this
          have hzs : szL ds ≤ 1000000 := by rw [szD] at hz; omega
          refine ⟨_, rfl, a, rfl, ⟨_, SqT.of ha⟩, for_tup (xs := xs) (fun j σ H3 => ∃ (c : Nat) (x3 : Option V), σ = [some (.ref a), some (.int ((n + 1 : Nat) : Int)), some (.int (room - (ds.length : Int) - (c : Int))), x3] ∧ Same H H3 ∧ sumO ((ds.map (deedB (cnt n))).take j) = some c ∧ (c : Int) ≤ room - ds.length) ?_ ?_ ?_ ?_⟩
          · refine ⟨0, none, ?_, Same.refl _, rfl, by omega⟩
            rw [hlen, show room - (ds.length : Int) - ((0 : Nat) : Int) = room - (ds.length : Int) by omega]
            rfl
          · rintro j σ H3 _ ⟨c, x3, rfl, s3, _⟩
            exact SqT.of (s3 _ _ ha)
          · rintro j y σ H3 hy ⟨c, x3, rfl, s3, hc, hcr⟩
            obtain ⟨e, he, hre⟩ := Paired.at hp hy
            have hsz : szD e ≤ 1000000 := Nat.le_trans (szL_get he) hzs
            have hL : (ds.map (deedB (cnt n)))[j]? = some (deedB (cnt n) e) := by rw [List.getElem?_map, he]; rfl
            have stop : ∀ H', Same H3 H' → (∀ g, deedB (cnt n) e = some g → room - ds.length < (c + g : Int)) → Q .non H' := fun H' s' hg => by
              have := k' H' (s3.trans s')
              rw [sumO_stop hL hc hg] at this
              exact this
            have hre3 := hre.same s3
            have bad : deedB (cnt n) e = none → Q .non H3 := fun z => stop H3 (Same.refl _) fun g hg => by rw [z] at hg; cases hg
            refine rd_isi (.inr (.inr (.inr rfl))) rfl hre3 ⟨_, rfl, ?_⟩
            rcases @notTup e with ⟨es', rfl⟩ | hn
            case inr =>
              refine iteB1 (by cases e <;> first | rfl | exact absurd rfl (hn _)) (iteT (bad ?_))
              cases e <;> first | rfl | exact absurd rfl (hn _)
            refine iteB0 rfl ?_
            obtain ⟨m2, b, zs, rfl, rfl, hb, hpb⟩ := rep_tup hre3
            refine ⟨_, rfl, _, .inr (.inl ⟨zs, SqT.of hb, rfl⟩), ?_⟩
            cases hpb with
            | nil => exact iteB1 rfl (iteT (bad rfl))
            | @cons z0 e0 zs ds' hr0 hpb =>
            refine iteB0 rfl ?_
            have hat : atI (z0 :: zs) 0 = some z0 := atI_nat (xs := z0 :: zs) (j := 0) (v := z0) rfl
            refine ⟨_, rfl, b, _, 0, z0, rfl, rfl, SqT.of hb, hat, z0, .ty "str", .type (tyN e0), .type "str", _, rfl, .ty "str", hr0.ty, kit_ty (kit_T (.inl rfl) e0), _, rfl, ?_⟩
            by_cases hst : ∃ y, e0 = .str y
            case neg =>
              refine iteB1 (by cases e0 <;> first | rfl | exact absurd ⟨_, rfl⟩ hst) (iteT (bad ?_))
              cases e0 <;> first | rfl | exact absurd ⟨_, rfl⟩ hst
            obtain ⟨x, rfl⟩ := hst
            cases rep_str hr0
            refine iteB0 rfl ?_
            cases hf : formOf x with
            | none =>
              refine ⟨_, rfl, b, _, 0, _, rfl, rfl, SqT.of hb, hat, x, none, rfl, rfl, D.no x hf, _, rfl, iteB1 rfl (bad ?_)⟩
              show (match formOf x with | some ks => if ds'.length = ks.length then sumO (List.zipWith (partB (cnt n)) ks ds') else none | none => none) = none
              rw [hf]
            | some ks =>
              obtain ⟨t, e1, e2, e3⟩ := D.get hf
              refine ⟨_, rfl, b, _, 0, _, rfl, rfl, SqT.of hb, hat, x, some (.ref t), rfl, rfl, e1, _, rfl, iteB0 rfl (nxt_of ?_)⟩
              refine asg_n (call_of ⟨_, rfl, _, rfl, _, _, rfl, rfl, _, rfl, m2 + 1, .ref b, x, ds', ks, room - (ds.length : Int) - (c : Int), ?_, hf, hre3, hsz, by omega, fun H4 s4 => ?_⟩)
              · show [V.ref b, V.int (((n + 1 : Nat) : Int) - 1), V.int (room - (ds.length : Int) - (c : Int))] = [V.ref b, V.int (n : Int), V.int (room - (ds.length : Int) - (c : Int))]
                rw [show (((n + 1 : Nat) : Int) - 1) = (n : Int) by omega]
              cases hce : deedB (cnt n) (.tuple (.str x :: ds')) with
              | none => exact ⟨_, rfl, _, rfl, iteT (stop H4 s4 fun g hg => by rw [hce] at hg; cases hg)⟩
              | some g =>
                by_cases hg : (g : Int) ≤ room - (ds.length : Int) - (c : Int)
                · have e1 : resV (some g) (room - (ds.length : Int) - (c : Int)) = .int (room - (ds.length : Int) - (c : Int) - g) := if_pos hg
                  rw [e1]
                  refine ⟨_, rfl, _, rfl, iteF ?_⟩
                  refine ⟨c + g, some (.ref b), ?_, s3.trans s4, sumO_snoc (by rw [hL, hce]) hc, by omega⟩
                  rw [show room - (ds.length : Int) - ((c + g : Nat) : Int) = room - (ds.length : Int) - (c : Int) - (g : Int) by omega]
                  rfl
                · have e1 : resV (some g) (room - (ds.length : Int) - (c : Int)) = .non := if_neg hg
                  rw [e1]
                  exact ⟨_, rfl, _, rfl, iteT (stop H4 s4 fun g' hg' => by rw [hce] at hg'; cases hg'; omega)⟩
          · rintro σ H3 ⟨c, x3, rfl, s3, hc, hcr⟩
            have hfull : (ds.map (deedB (cnt n))).take xs.length = ds.map (deedB (cnt n)) := by
              rw [List.take_of_length_le]
              rw [List.length_map]; omega
            rw [hfull] at hc
            refine ⟨_, rfl, ?_⟩
            have := k' H3 s3
            rw [hc] at this
            have e1 : resV (some c) (room - ds.length) = .int (room - ds.length - c) := if_pos hcr
            rw [e1] at this
            exact this
        · refine iteB1 (decide_eq_true (by omega)) (out ?_)
          rw [cnt, resV_big hl]
    · refine iteB1 (by cases d <;> first | rfl | exact absurd rfl (hn _)) (iteT (out ?_))
      cases n with
      | zero => rfl
      | succ n => cases d <;> first | rfl | exact absurd rfl (hn _)
end
end My

set_option Elab.async false
set_option linter.all false
set_option maxRecDepth 100000
set_option maxHeartbeats 4000000
namespace My
open PySem L2
section
variable {P : Program} {w : World} {K : PySem.W.Frag} {mg : Str → Option Value} {pB : Heap}
theorem ok_rooms {f fR fW fF dA : Addr} {fd dR dW dF : FuncData} {es : Array DictEntry} {nn : Nat} (F : Fun K "room_behind_parts" "room_behind_parts" sRoomD f fd) (mD : mg "room_behind_parts" = some (.ref f)) (bD : Binds K fd ["deed", "levels", "room"] [])
    (FR : Fun K "room_behind" "room_behind" sRoom fR dR) (mR : mg "room_behind" = some (.ref fR)) (bR : Binds K dR ["thing", "levels", "room"] []) (D : Deeds K w mg dA es nn)
    (GW : FnOk P w K mg pB CX0 1 fW dW ["thing"] spIsWord) (mW : mg "is_word" = some (.ref fW)) (kW : PySem.W.keepIn K (.ref fW) = true) (bW' : Binds K dW ["thing"] [])
    (GF : FnOk P w K mg pB CX0 8 fF dF ["kind", "part"] spFits) (mF : mg "fits" = some (.ref fF)) (kF : PySem.W.keepIn K (.ref fF) = true) (bF : Binds K dF ["kind", "part"] [])
    (mI : mg "isinstance" = none) (mT : mg "tuple" = none) (mS : mg "str" = none) (mLen : mg "len" = none) :
    ∀ n, FnOk P w K mg pB CX0 (10 + 2 * n) fR dR ["thing", "levels", "room"] (spRoom n) ∧ FnOk P w K mg pB CX0 (11 + 2 * n) f fd ["deed", "levels", "room"] (spRoomD n)
  | 0 => by
    have r := step_room FR 0 (P := P) (pB := pB) D (ok_bot (f := f) (fd := fd)) mD F.kp bD mI mT mS mLen
    exact ⟨r, step_roomD F 0 D GW mW kW bW' GF mF kF bF r mR FR.kp bR mLen⟩
  | n + 1 => by
    have h := ok_rooms F mD bD FR mR bR D GW mW kW bW' GF mF kF bF mI mT mS mLen n
    have r := step_room FR (n + 1) D (h.2.mono (by omega)) mD F.kp bD mI mT mS mLen
    exact ⟨r, step_roomD F (n + 1) D GW mW kW bW' GF mF kF bF r mR FR.kp bR mLen⟩
def isS (d : PyData) : Bool := match cnt 5 d with
  | some c => decide (c ≤ 200)
  | none => false
theorem isS_res (d : PyData) : (!decide (resV (cnt 5 d) 200 = .non)) = isS d := by
  unfold isS
  cases cnt 5 d with
  | none => rfl
  | some c =>
    show (!decide ((if ((c : Nat) : Int) ≤ 200 then V.int (200 - (c : Int)) else .non) = .non)) = decide (c ≤ 200)
    by_cases h : c ≤ 200
    · rw [if_pos (by omega), decide_eq_true h]
      rfl
    · rw [if_neg (by omega), decide_eq_false h]
      rfl
abbrev sIsScript : Stmt := top 27
theorem scIsScript : FnScope ["thing"] ["thing"] (defScope sIsScript) := ⟨rfl, rfl, rfl, by decide +kernel, rfl, by decide +kernel, by decide +kernel⟩
theorem ok_isscript {f fR : Addr} {fd dR : FuncData} {tk tk2 : Tok} (F : Fun K "is_script" "is_script" sIsScript f fd)
    (GR : FnOk P w K mg pB CX0 20 fR dR ["thing", "levels", "room"] (spRoom 5)) (mR : mg "room_behind" = some (.ref fR)) (kR : PySem.W.keepIn K (.ref fR) = true) (bR : Binds K dR ["thing", "levels", "room"] [])
    (mL : mg "SCRIPT_LEVELS" = some (.int 5 tk)) (mM : mg "MOST_DEEDS" = some (.int 200 tk2)) : FnOk P w K mg pB CX0 21 f fd ["thing"] (spTest isS) := by
  refine F.ok scIsScript (fun vs H Q E h => ?_) (fun cdv A outer s H vs Q E hr h => ?_)
  · obtain ⟨m, v, d, rfl, _⟩ := h
    rfl
  · obtain ⟨m, v, d, rfl, hR, hz, k⟩ := h
    refine ⟨_, pss_one (ps_ret (pe_cmp (pc_notN (pe_call GR hr rfl mR kR bR .nil pass0 (pa_cons (pv 0) (pa_cons (pe_glob (by rfl) mL (show RelV (.int 5) _ from ⟨_, rfl⟩)) (pa_cons (pe_glob (by rfl) mM (show RelV (.int 200) _ from ⟨_, rfl⟩)) pa_nil))))) rfl)), ?_⟩
    refine ⟨_, rfl, m, v, d, 200, rfl, hR, hz, by decide, fun H1 s1 => ?_⟩
    show Q (.bl (!decide (resV (cnt 5 d) 200 = .non))) H1
    rw [isS_res]
    exact k H1 s1
end
end My


set_option Elab.async false
set_option linter.all false
set_option maxRecDepth 100000
set_option maxHeartbeats 4000000
namespace My
open PySem PySem.W
open PySem.Sem (wp)
section
variable {prog : Program} {w : World} {A : Around} {E : Value → Shared → Prop} {s : Shared} {z TI TO i1 i2 : Addr} {fp1 fp2 : List Addr} {n1 n2 i : Nat} {P1 P2 : Nat → Value → Prop} {St1 St2 : Nat → Heap → Prop}
/-- a zip's own record -/
abbrev ZR (h : Heap) (z TI TO : Addr) (f0 : Value) (f : Bool) : Prop := h.get? z = some { cls := .type "zip", dict := none, data := .fields #[f0, .bool f, .bool false, .ref TI, .ref TO], slots := #[] }
/-- a zip as it stands amid a walk: its last pair is let go, or out, whether it is still there or not -/
def ZS (h : Heap) (z TI TO : Addr) : Prop := ∃ f0 f, ZR h z TI TO f0 f ∧ (f0 = .none ∨ ∃ T : Nat, f0 = rawInt (T : Int))
theorem alive_any {a : Addr} {Q : Option Obj → Shared → Prop} (h : Q (s.heap.get? a) s) : wpAny (model prog w) A (loadIfAlive a) Q E s := fun _ _ _ => h
theorem free_or {f0 : Value} {f : Bool} {Q : Bool → Shared → Prop} (hz : ZR s.heap z TI TO f0 f) (hf : f0 = .none ∨ ∃ T : Nat, f0 = rawInt (T : Int)) (h1 : Q true s)
    (h2 : ∀ g T, ZR g z TI TO (rawInt ((T : Nat) : Int)) true → Heap.SameBut z s.heap g → Q false { s with heap := g }) : wpAny (model prog w) A (Builtin.SmallTypes.ownedTupleIsFree (.ref z)) Q E s := by
  unfold Builtin.SmallTypes.ownedTupleIsFree
  rcases hf with rfl | ⟨T, rfl⟩
  · exact wpAny_bind (wpAny_field hz rfl (x := .none) rfl (wpAny_pure h1))
  · refine wpAny_bind (wpAny_field hz rfl (x := rawInt T) rfl ?_)
    show wpAny _ _ (loadIfAlive ((T : Int).toNat) >>= fun q => if q.isNone = true then _ else _) _ _ _
    refine wpAny_bind (alive_any ?_)
    cases hq : s.heap.get? ((T : Int).toNat) with
    | none => exact wpAny_pure h1
    | some o =>
      show wpAny _ _ (if (some o).isNone = true then _ else _) _ _ _
      rw [if_neg (by simp)]
      refine wpAny_bind (wpAny_field hz rfl (x := .bool f) rfl ?_)
      cases f with
      | true =>
        rw [if_neg (show ¬ ((Value.bool true != Value.bool true) = true) by decide)]
        exact wpAny_pure (h2 s.heap T hz (.refl _ _))
      | false =>
        rw [if_pos (show (Value.bool false != Value.bool true) = true by decide)]
        exact wpAny_bind (wpAny_setField_rec hz (by simp) fun g hg sg => wpAny_pure (h2 g T hg sg))
/-- one more pair -/
theorem zs_item {a1 a2 : Value} {Q : Value → Shared → Prop} (S : ZipSep2 z TI TO i1 i2 fp1 fp2) (d1 : Draws prog w A i1 fp1 n1 P1 St1) (d2 : Draws prog w A i2 fp2 n2 P2 St2) (hz : ZS s.heap z TI TO)
    (hTI : IsTupOf2 s.heap TI (.ref i1) (.ref i2)) (hTO : IsTupOf2 s.heap TO a1 a2) (st1 : St1 i s.heap) (st2 : St2 i s.heap) (l1 : i < n1) (l2 : i < n2)
    (hQ : ∀ x1 x2 g tk, P1 i x1 → P2 i x2 → ZS g z TI TO → (∃ b1 b2, IsTupOf2 g TO b1 b2) → St1 (i + 1) g → St2 (i + 1) g → IsTupOf2 g s.heap.objs.size x1 x2 → g.objs.size = s.heap.objs.size + 1 →
      (∀ c o, c ≠ z → c ≠ TO → c ≠ i1 → c ≠ i2 → s.heap.get? c = some o → g.get? c = some o) → Q (.ref s.heap.objs.size) { s with heap := g, toks := tk }) :
    wpAny (model prog w) A (Builtin.«zip.__next__» ⟨[.ref z], []⟩) (fun r s' => ∃ v, r = .done (.ret v) ∧ Q v s') E s := by
  obtain ⟨f0, f, hz, hf⟩ := hz
  obtain ⟨H0, ge, dr, t0, oo⟩ := s
  show wpAny _ _ (field (.ref z) 2 >>= fun _ => _) _ _ _
  refine wpAny_bind (wpAny_field hz rfl (x := .bool false) rfl (wpAny_bind (m := field (.ref z) 3) (wpAny_field hz rfl (x := .ref TI) rfl (wpAny_bind (wpAny_seqItems hTI rfl ?_)))))
  show wpAny _ _ (Builtin.SmallTypes.ownedTupleIsFree (.ref z) >>= fun _ => _) _ _ _
  refine wpAny_bind (free_or hz hf ?_ fun g T hg sg => ?_)
  · simp only [if_true]
    refine wpAny_bind (wpAny_rule (wpAny_bind (wpAny_field hz rfl (x := .ref TO) rfl (wpAny_bind (wpAny_setField_rec hz (by simp) fun k0 zk0 sk0 => wpAny_bind ?_)))))
    have zk0 : ZR k0 z TI TO .ellipsis f := zk0
    have sk0 : Heap.SameBut z H0 k0 := sk0
    simp only [List.zipIdx_cons, List.zipIdx_nil, List.forIn_cons, List.forIn_nil]
    refine wpAny_bind (wpAny_bind (wpAny_onRaise ?_))
    show wpAny _ _ (Builtin.SmallTypes.nextOf (.ref i1) >>= fun _ => _) _ _ ⟨k0, ge, dr, t0, oo⟩
    refine wpAny_bind (d1.item i _ _ _ l1 (d1.over st1 sk0 S.zf1) fun x1 m1 t1 e1 u1 su1 => wpAny_pure ?_)
    have su1 : Heap.SameBut i1 k0 m1 := su1
    have c1 : IsTupOf2 m1 TO a1 a2 := su1.extBut _ _ S.Ti1 (sk0.extBut _ _ S.TOz hTO)
    refine wpAny_bind (wpAny_seqItems (s := ⟨m1, ge, dr, t1, oo⟩) c1 rfl (wpAny_bind (updateSeq_IsTupOf2 (s := ⟨m1, ge, dr, t1, oo⟩) c1 fun k1 c1' sk1 => wpAny_bind (wpAny_letGo (wpAny_pure ?_)))))
    have c1' : IsTupOf2 k1 TO x1 a2 := c1'
    have sk1 : Heap.SameBut TO m1 k1 := sk1
    refine wpAny_bind (wpAny_bind (wpAny_onRaise ?_))
    show wpAny _ _ (Builtin.SmallTypes.nextOf (.ref i2) >>= fun _ => _) _ _ ⟨k1, ge, dr, t1, oo⟩
    refine wpAny_bind (d2.item i _ _ _ l2 (d2.over (d2.over (d2.over st2 sk0 S.zf2) su1 S.sep1_2) sk1 S.Tf2) fun x2 m2 t2 e2 u2 su2 => wpAny_pure ?_)
    have su2 : Heap.SameBut i2 k1 m2 := su2
    have c2 : IsTupOf2 m2 TO x1 a2 := su2.extBut _ _ S.Ti2 c1'
    refine wpAny_bind (wpAny_seqItems (s := ⟨m2, ge, dr, t2, oo⟩) c2 rfl (wpAny_bind (updateSeq_IsTupOf2 (s := ⟨m2, ge, dr, t2, oo⟩) c2 fun k2 c2' sk2 => wpAny_bind (wpAny_letGo (wpAny_pure (wpAny_pure ?_))))))
    have c2' : IsTupOf2 k2 TO x1 x2 := c2'
    have sk2 : Heap.SameBut TO m2 k2 := sk2
    refine wpAny_bind (wpAny_seqItems (s := ⟨k2, ge, dr, t2, oo⟩) c2' rfl (wpAny_bind (wpAny_newTuple ?_)))
    have hsz : k2.objs.size = H0.objs.size := by rw [sk2.1, su2.1, sk1.1, su1.1, sk0.1]
    have zk : ZR k2 z TI TO .ellipsis f := sk2.extBut _ _ S.TOz.symm (su2.extBut _ _ S.zi2 (sk1.extBut _ _ S.TOz.symm (su1.extBut _ _ S.zi1 zk0)))
    have kk : ∀ c o, c ≠ z → c ≠ TO → c ≠ i1 → c ≠ i2 → H0.get? c = some o → k2.get? c = some o := fun c o q0 qT q1 q2 e =>
      sk2.extBut _ _ qT (su2.extBut _ _ q2 (sk1.extBut _ _ qT (su1.extBut _ _ q1 (sk0.extBut _ _ q0 e))))
    have w1 : St1 (i + 1) k2 := d1.over (d1.over (d1.over u1 sk1 S.Tf1) su2 S.sep2_1) sk2 S.Tf1
    have w2 : St2 (i + 1) k2 := d2.over u2 sk2 S.Tf2
    have zlt : z < k2.objs.size := Heap.lt_size zk
    show wpAny _ _ (Builtin.SmallTypes.ownedTupleHandOut (.ref z) (.ref k2.objs.size) >>= fun _ => _) _ _ ⟨k2.push { cls := .type "tuple", data := .seq #[x1, x2] }, ge, dr, t2, oo⟩
    refine wpAny_bind ?_
    unfold Builtin.SmallTypes.ownedTupleHandOut
    have zp : ZR (k2.push { cls := .type "tuple", data := .seq #[x1, x2] }) z TI TO .ellipsis f := Heap.get?_push_of_some _ zk
    refine wpAny_bind (wpAny_setField_rec zp (by simp) fun k3 zk3 sk3 => ?_)
    have zk3 : ZR k3 z TI TO (rawInt (k2.objs.size : Int)) f := zk3
    refine wpAny_setField_rec zk3 (by simp) fun k4 zk4 sk4 => wpAny_pure ⟨_, rfl, ?_⟩
    have zk4 : ZR k4 z TI TO (rawInt (k2.objs.size : Int)) false := zk4
    have sk3 : Heap.SameBut z (k2.push { cls := .type "tuple", data := .seq #[x1, x2] }) k3 := sk3
    have sk4 : Heap.SameBut z k3 k4 := sk4
    have up : ∀ c o, c ≠ z → k2.get? c = some o → k4.get? c = some o := fun c o q e => sk4.extBut _ _ q (sk3.extBut _ _ q (Heap.get?_push_of_some _ e))
    have new : IsTupOf2 k4 k2.objs.size x1 x2 := sk4.extBut _ _ (Nat.ne_of_gt zlt) (sk3.extBut _ _ (Nat.ne_of_gt zlt) (Heap.get?_push_size _ rfl))
    have sz4 : k4.objs.size = k2.objs.size + 1 := by rw [sk4.1, sk3.1, Heap.size_push]
    show Q (.ref k2.objs.size) ⟨k4, ge, dr, t2, oo⟩
    have fin := hQ x1 x2 k4 t2 e1 e2 ⟨_, _, zk4, .inr ⟨_, rfl⟩⟩ ⟨x1, x2, up _ _ S.TOz c2'⟩ (d1.frame _ _ _ w1 fun b hb o e => up b o (fun q => S.zf1 (q ▸ hb)) e) (d2.frame _ _ _ w2 fun b hb o e => up b o (fun q => S.zf2 (q ▸ hb)) e)
    rw [hsz] at new sz4 ⊢
    exact fin new sz4 fun c o q0 qT q1 q2 e => up c o q0 (kk c o q0 qT q1 q2 e)
  · have sg : Heap.SameBut z H0 g := sg
    simp only [Bool.false_eq_true, if_false]
    refine wpAny_bind ?_
    rw [← Array.forIn_toList]
    simp only [List.forIn_cons, List.forIn_nil]
    refine wpAny_bind (wpAny_bind (wpAny_holding ?_))
    show wpAny _ _ (Builtin.SmallTypes.nextOf (.ref i1) >>= fun _ => _) _ _ ⟨g, ge, dr, t0, oo⟩
    refine wpAny_bind (d1.item i ⟨g, ge, dr, t0, oo⟩ _ _ l1 (d1.over st1 sg S.zf1) fun x1 m1 t1 e1 u1 su1 => wpAny_pure (wpAny_pure ?_))
    have su1 : Heap.SameBut i1 g m1 := su1
    refine wpAny_bind (wpAny_bind (wpAny_holding ?_))
    show wpAny _ _ (Builtin.SmallTypes.nextOf (.ref i2) >>= fun _ => _) _ _ ⟨m1, ge, dr, t1, oo⟩
    refine wpAny_bind (d2.item i ⟨m1, ge, dr, t1, oo⟩ _ _ l2 (d2.over (d2.over st2 sg S.zf2) su1 S.sep1_2) fun x2 m2 t2 e2 u2 su2 => wpAny_pure (wpAny_pure (wpAny_pure ?_)))
    have su2 : Heap.SameBut i2 m1 m2 := su2
    show wpAny _ _ (newTuple [x1, x2] >>= fun _ => _) _ _ ⟨m2, ge, dr, t2, oo⟩
    refine wpAny_bind (wpAny_newTuple (wpAny_pure ⟨_, rfl, ?_⟩))
    have hsz : m2.objs.size = H0.objs.size := by rw [su2.1, su1.1, sg.1]
    show Q (.ref m2.objs.size) ⟨m2.push { cls := .type "tuple", data := .seq #[x1, x2] }, ge, dr, t2, oo⟩
    have up : ∀ c o, m2.get? c = some o → (m2.push { cls := .type "tuple", data := .seq #[x1, x2] }).get? c = some o := fun c o e => Heap.get?_push_of_some _ e
    have new : IsTupOf2 (m2.push { cls := .type "tuple", data := .seq #[x1, x2] }) m2.objs.size x1 x2 := Heap.get?_push_size _ rfl
    have sz4 : (m2.push { cls := .type "tuple", data := .seq #[x1, x2] }).objs.size = m2.objs.size + 1 := Heap.size_push ..
    have zk : ZR (m2.push { cls := .type "tuple", data := .seq #[x1, x2] }) z TI TO (rawInt (T : Int)) true := up _ _ (su2.extBut _ _ S.zi2 (su1.extBut _ _ S.zi1 hg))
    have cT : IsTupOf2 (m2.push { cls := .type "tuple", data := .seq #[x1, x2] }) TO a1 a2 := up _ _ (su2.extBut _ _ S.Ti2 (su1.extBut _ _ S.Ti1 (sg.extBut _ _ S.TOz hTO)))
    have fin := hQ x1 x2 _ t2 e1 e2 ⟨_, _, zk, .inr ⟨_, rfl⟩⟩ ⟨_, _, cT⟩ (d1.frame _ _ _ (d1.over u1 su2 S.sep2_1) fun b _ o e => up b o e) (d2.frame _ _ _ u2 fun b _ o e => up b o e)
    rw [hsz] at new sz4 ⊢
    exact fin new sz4 fun c o q0 _ q1 q2 e => up c o (su2.extBut _ _ q2 (su1.extBut _ _ q1 (sg.extBut _ _ q0 e)))
/-- no more -/
theorem zs_end {a1 a2 : Value} {Q : Fin → Shared → Prop} (S : ZipSep2 z TI TO i1 i2 fp1 fp2) (d1 : Draws prog w A i1 fp1 n1 P1 St1) (d2 : Draws prog w A i2 fp2 n2 P2 St2) (hz : ZS s.heap z TI TO)
    (hTI : IsTupOf2 s.heap TI (.ref i1) (.ref i2)) (hTO : IsTupOf2 s.heap TO a1 a2) (st1 : St1 i s.heap) (st2 : St2 i s.heap) (l1 : i ≤ n1) (l2 : i ≤ n2) (he : i = n1 ∨ i = n2)
    (hE : ∀ g tk e, (∀ c o, c ≠ z → c ≠ TO → c ≠ i1 → c ≠ i2 → s.heap.get? c = some o → g.get? c = some o) → (∃ o, g.get? e = some o ∧ o.cls = .type "StopIteration") → E (.ref e) { s with heap := g, toks := tk }) :
    wpAny (model prog w) A (Builtin.«zip.__next__» ⟨[.ref z], []⟩) Q E s := by
  obtain ⟨f0, f, hz, hf⟩ := hz
  obtain ⟨H0, ge, dr, t0, oo⟩ := s
  show wpAny _ _ (field (.ref z) 2 >>= fun _ => _) _ _ _
  refine wpAny_bind (wpAny_field hz rfl (x := .bool false) rfl (wpAny_bind (m := field (.ref z) 3) (wpAny_field hz rfl (x := .ref TI) rfl (wpAny_bind (wpAny_seqItems hTI rfl ?_)))))
  show wpAny _ _ (Builtin.SmallTypes.ownedTupleIsFree (.ref z) >>= fun _ => _) _ _ _
  refine wpAny_bind (free_or hz hf ?_ fun g T hg sg => ?_)
  · simp only [if_true]
    refine wpAny_bind (wpAny_rule (wpAny_bind (wpAny_field hz rfl (x := .ref TO) rfl (wpAny_bind (wpAny_setField_rec hz (by simp) fun k0 zk0 sk0 => wpAny_bind ?_)))))
    have zk0 : ZR k0 z TI TO .ellipsis f := zk0
    have sk0 : Heap.SameBut z H0 k0 := sk0
    simp only [List.zipIdx_cons, List.zipIdx_nil, List.forIn_cons, List.forIn_nil]
    have shut : ∀ (q : Heap) (t : Tok) (e : Addr), ZR q z TI TO .ellipsis f → (∃ o, q.get? e = some o ∧ o.cls = .type "StopIteration") → (∀ c o, c ≠ z → c ≠ TO → c ≠ i1 → c ≠ i2 → H0.get? c = some o → q.get? c = some o) →
        wpAny (model prog w) A (setField (.ref z) 0 .none) (fun _ s' => E (.ref e) s') E ⟨q, ge, dr, t, oo⟩ := by
      rintro q t e zq ⟨o, ho, hc⟩ kq
      have hez : e ≠ z := fun x => by subst x; rw [zq] at ho; cases ho; simp at hc
      refine wpAny_setField_rec (s := ⟨q, ge, dr, t, oo⟩) zq (by simp) fun q' _ sq => ?_
      have sq : Heap.SameBut z q q' := sq
      exact hE q' t e (fun c o q0 qT q1 q2 x => sq.extBut _ _ q0 (kq c o q0 qT q1 q2 x)) ⟨o, sq.extBut _ _ hez ho, hc⟩
    refine wpAny_bind (wpAny_bind (wpAny_onRaise ?_))
    show wpAny _ _ (Builtin.SmallTypes.nextOf (.ref i1) >>= fun _ => _) _ _ ⟨k0, ge, dr, t0, oo⟩
    by_cases h1 : i < n1
    · refine wpAny_bind (d1.item i _ _ _ h1 (d1.over st1 sk0 S.zf1) fun x1 m1 t1 e1 u1 su1 => wpAny_pure ?_)
      have su1 : Heap.SameBut i1 k0 m1 := su1
      have c1 : IsTupOf2 m1 TO a1 a2 := su1.extBut _ _ S.Ti1 (sk0.extBut _ _ S.TOz hTO)
      refine wpAny_bind (wpAny_seqItems (s := ⟨m1, ge, dr, t1, oo⟩) c1 rfl (wpAny_bind (updateSeq_IsTupOf2 (s := ⟨m1, ge, dr, t1, oo⟩) c1 fun k1 c1' sk1 => wpAny_bind (wpAny_letGo (wpAny_pure ?_)))))
      have sk1 : Heap.SameBut TO m1 k1 := sk1
      have e2 : i = n2 := by omega
      refine wpAny_bind (wpAny_bind (wpAny_onRaise ?_))
      show wpAny _ _ (Builtin.SmallTypes.nextOf (.ref i2) >>= fun _ => _) _ _ ⟨k1, ge, dr, t1, oo⟩
      refine wpAny_bind (d2.done ⟨k1, ge, dr, t1, oo⟩ _ _ (by rw [← e2]; exact d2.over (d2.over (d2.over st2 sk0 S.zf2) su1 S.sep1_2) sk1 S.Tf2) fun q e hq hx => ?_)
      have hq : Heap.ExtBut i2 k1 q := hq
      exact shut q t1 e (hq _ _ S.zi2 (sk1.extBut _ _ S.TOz.symm (su1.extBut _ _ S.zi1 zk0))) hx fun c o q0 qT q1 q2 x => hq _ _ q2 (sk1.extBut _ _ qT (su1.extBut _ _ q1 (sk0.extBut _ _ q0 x)))
    · have e1 : i = n1 := by omega
      refine wpAny_bind (d1.done ⟨k0, ge, dr, t0, oo⟩ _ _ (by rw [← e1]; exact d1.over st1 sk0 S.zf1) fun q e hq hx => ?_)
      have hq : Heap.ExtBut i1 k0 q := hq
      exact shut q t0 e (hq _ _ S.zi1 zk0) hx fun c o q0 _ q1 _ x => hq _ _ q1 (sk0.extBut _ _ q0 x)
  · have sg : Heap.SameBut z H0 g := sg
    simp only [Bool.false_eq_true, if_false]
    refine wpAny_bind ?_
    rw [← Array.forIn_toList]
    simp only [List.forIn_cons, List.forIn_nil]
    refine wpAny_bind (wpAny_bind (wpAny_holding ?_))
    show wpAny _ _ (Builtin.SmallTypes.nextOf (.ref i1) >>= fun _ => _) _ _ ⟨g, ge, dr, t0, oo⟩
    by_cases h1 : i < n1
    · refine wpAny_bind (d1.item i ⟨g, ge, dr, t0, oo⟩ _ _ h1 (d1.over st1 sg S.zf1) fun x1 m1 t1 e1 u1 su1 => wpAny_pure (wpAny_pure ?_))
      have su1 : Heap.SameBut i1 g m1 := su1
      have e2 : i = n2 := by omega
      refine wpAny_bind (wpAny_bind (wpAny_holding ?_))
      show wpAny _ _ (Builtin.SmallTypes.nextOf (.ref i2) >>= fun _ => _) _ _ ⟨m1, ge, dr, t1, oo⟩
      refine wpAny_bind (d2.done ⟨m1, ge, dr, t1, oo⟩ _ _ (by rw [← e2]; exact d2.over (d2.over st2 sg S.zf2) su1 S.sep1_2) fun q e hq hx => ?_)
      exact hE q t1 e (fun c o q0 _ q1 q2 x => hq _ _ q2 (su1.extBut _ _ q1 (sg.extBut _ _ q0 x))) hx
    · have e1 : i = n1 := by omega
      refine wpAny_bind (d1.done ⟨g, ge, dr, t0, oo⟩ _ _ (by rw [← e1]; exact d1.over st1 sg S.zf1) fun q e hq hx => ?_)
      exact hE q t0 e (fun c o q0 _ q1 _ x => hq _ _ q1 (sg.extBut _ _ q0 x)) hx
end
end My

set_option Elab.async false
set_option linter.all false
set_option maxRecDepth 100000
set_option maxHeartbeats 4000000
namespace My
open PySem PySem.W PySem.Spec PyProof.Rows L2
section
variable {prog : Program} {w : World} {A : Around} {E : Value → Shared → Prop} {s : Shared}
/-- enumerate's turn, whatever its iterator does -/
theorem en_item {e it : Addr} {c : Int} {old : Value} {Q : Value → Shared → Prop} (he : IsEnum s.heap e it c old)
    (hn : wpAny (model prog w) A (Builtin.SmallTypes.nextOf (.ref it)) (fun x s1 => IsEnum s1.heap e it c old ∧ ∀ g tk, IsEnumOut g e it (c + 1) x s1.heap.objs.size → g.get? s1.heap.objs.size = some { cls := .type "tuple", data := .seq #[.int c tk, x] } →
      g.objs.size = s1.heap.objs.size + 1 → (∀ b o, b ≠ e → s1.heap.get? b = some o → g.get? b = some o) → Q (.ref s1.heap.objs.size) { s1 with heap := g, toks := tk + 1 }) E s) :
    wpAny (model prog w) A (Builtin.«enumerate.__next__» ⟨[.ref e], []⟩) (fun r s' => ∃ v, r = .done (.ret v) ∧ Q v s') E s := by
  show wpAny _ _ (field (.ref e) 2 >>= fun _ => _) _ _ _
  refine wpAny_bind (wpAny_field he rfl (x := .ref it) rfl (wpAny_bind (wpAny_mono hn ?_ fun _ _ q => q)))
  rintro x ⟨g1, ge, dr, t1, oo⟩ ⟨he1, hQ⟩
  show wpAny _ _ (field (.ref e) 3 >>= fun _ => _) _ _ ⟨g1, ge, dr, t1, oo⟩
  refine wpAny_bind (wpAny_field he1 rfl (x := rawInt c) rfl (wpAny_bind (m := field (.ref e) 4) (wpAny_field he1 rfl (x := .none) rfl ?_)))
  show wpAny _ _ (mkInt c >>= fun _ => _) _ _ ⟨g1, ge, dr, t1, oo⟩
  refine wpAny_bind (wpAny_mkInt (wpAny_bind (m := setField (.ref e) 3 (rawInt (c + 1))) (wpAny_setField_rec he1 (by simp) fun g2 he2 s2 => ?_)))
  have he2 : IsEnum g2 e it (c + 1) old := he2
  have s2 : Heap.SameBut e g1 g2 := s2
  refine wpAny_bind (m := setField (.ref e) 4 .none) (wpAny_setField_rec (s := ⟨g2, ge, dr, t1 + 1, oo⟩) he2 (by simp) fun g3 he3 s3 => ?_)
  have he3 : IsEnum g3 e it (c + 1) old := he3
  have s3 : Heap.SameBut e g2 g3 := s3
  show wpAny _ _ (newTuple [.int c t1, x] >>= fun _ => _) _ _ ⟨g3, ge, dr, t1 + 1, oo⟩
  refine wpAny_bind (wpAny_newTuple ?_)
  have he4 : IsEnum (g3.push { cls := .type "tuple", data := .seq #[.int c t1, x] }) e it (c + 1) old := Heap.get?_push_of_some _ he3
  have z3 : g3.objs.size = g1.objs.size := by rw [s3.1, s2.1]
  have elt : e < g1.objs.size := Heap.lt_size he1
  have new4 : (g3.push { cls := .type "tuple", data := .seq #[.int c t1, x] }).get? g1.objs.size = some { cls := .type "tuple", data := .seq #[.int c t1, x] } := by
    rw [← z3]; exact Heap.get?_push_size _ rfl
  have z4 : (g3.push { cls := .type "tuple", data := .seq #[.int c t1, x] }).objs.size = g1.objs.size + 1 := by rw [Heap.size_push, z3]
  have k4 : ∀ b o, b ≠ e → g1.get? b = some o → (g3.push { cls := .type "tuple", data := .seq #[.int c t1, x] }).get? b = some o := fun b o hb q => Heap.get?_push_of_some _ (s3.extBut b o hb (s2.extBut b o hb q))
  show wpAny _ _ (Builtin.SmallTypes.ownedTupleIsFree (.ref e) >>= fun _ => _) _ _ ⟨g3.push { cls := .type "tuple", data := .seq #[.int c t1, x] }, ge, dr, t1 + 1, oo⟩
  rw [z3]
  generalize g3.push { cls := .type "tuple", data := .seq #[.int c t1, x] } = g4 at he4 new4 z4 k4 ⊢
  refine wpAny_bind ?_
  unfold Builtin.SmallTypes.ownedTupleIsFree
  refine wpAny_bind (wpAny_field he4 rfl (x := .none) rfl (wpAny_pure ?_))
  simp only [if_true]
  refine wpAny_bind (wpAny_rule (wpAny_bind (wpAny_field he4 rfl (x := old) rfl (wpAny_bind (wpAny_setField_rec he4 (by simp) fun g5 he5 s5 => ?_)))))
  have he5 : IsEnum g5 e it (c + 1) x := he5
  have s5 : Heap.SameBut e g4 g5 := s5
  show wpAny _ _ (Builtin.SmallTypes.ownedTupleHandOut (.ref e) (.ref g1.objs.size) >>= fun _ => _) _ _ ⟨g5, ge, dr, t1 + 1, oo⟩
  refine wpAny_bind ?_
  unfold Builtin.SmallTypes.ownedTupleHandOut
  refine wpAny_bind (wpAny_setField_rec he5 (by simp) fun g6 he6 s6 => ?_)
  have he6 : IsEnumOut g6 e it (c + 1) x g1.objs.size := he6
  have s6 : Heap.SameBut e g5 g6 := s6
  refine wpAny_setField_rec he6 (by simp) fun g7 he7 s7 => wpAny_bind (wpAny_letGo (wpAny_pure ⟨_, rfl, ?_⟩))
  have s7 : Heap.SameBut e g6 g7 := s7
  have up : ∀ b o, b ≠ e → g4.get? b = some o → g7.get? b = some o := fun b o hb q => s7.extBut b o hb (s6.extBut b o hb (s5.extBut b o hb q))
  exact hQ g7 t1 he7 (up _ _ (Nat.ne_of_gt elt) new4) (by show g7.objs.size = g1.objs.size + 1; rw [s7.1, s6.1, s5.1, z4]) fun b o hb q => up b o hb (k4 b o hb q)
/-- enumerate(zip) as it begins -/
theorem meets_enZ (z TI TO : Addr) : Meets (Builtin.«enumerate.__new__» ⟨[.type "enumerate", .ref z], []⟩) (fun _ R s => IsZip s.heap z TI TO .none ∧
    R (.ok (.ret (.ref s.heap.objs.size))) { s with heap := s.heap.push { cls := .type "enumerate", data := .fields #[.none, .bool false, .ref z, rawInt 0, .none, .none] } }) :=
  .of_wp fun prog w A R s hh => by
    obtain ⟨H0, ge, dr, t0, oo⟩ := s
    obtain ⟨hz, hR⟩ := hh
    have hs := sub_enumerate
    have ow : ∀ {A' : Around} {E : Value → Shared → Prop} {Q : Value → Shared → Prop}, Q (.ref z) ⟨H0, ge, dr, t0, oo⟩ → wpAny (model prog w) A' (pyIter (.ref z)) Q E ⟨H0, ge, dr, t0, oo⟩ := fun q => wpAny_pyIter_zip hz q
    wp_walk using ow
    refine wpAny_stack_any (fun stk => wpAny_pure ?_)
    split
    · rename_i cl _ _ _ _ _
      cases hcl : (cl == Value.type "enumerate") <;> (wp_walk using ow) <;> exact ⟨_, rfl, hR⟩
    · wp_walk using ow
      exact ⟨_, rfl, hR⟩
theorem call_enZ {z TI TO : Addr} {Q : Value → Shared → Prop} (hz : IsZip s.heap z TI TO .none)
    (h : ∀ g, IsEnum g s.heap.objs.size z 0 .none → g.objs.size = s.heap.objs.size + 1 → (∀ b o, s.heap.get? b = some o → g.get? b = some o) → Q (.ref s.heap.objs.size) { s with heap := g }) : wpAny (model prog w) A (call (.type "enumerate") [.ref z]) Q E s := by
  have he : IsEnum (s.heap.push { cls := .type "enumerate", data := .fields #[.none, .bool false, .ref z, rawInt 0, .none, .none] }) s.heap.objs.size z 0 .none := Heap.get?_push_size _ rfl
  exact callType_new F.called_enumerate (by decide) (F.typeCall_enumerate_1 _) (F.newCall_enumerate_1 _) (fun obj => F.args_object_init_2 obj _) F.entry_enumerate_new (meets_enZ z TI TO)
    ⟨hz, ⟨⟨_, he, rfl⟩, h _ he (Heap.size_push ..) fun b o x => Heap.get?_push_of_some _ x⟩⟩
end
/-! ### a list or a tuple -/
def SqX (k : Bool) (K : PySem.W.Frag) (H : Hp) (a : Addr) (xs : List V) : Prop := if k = true then SqL K H a xs else SqT K H a xs
def IterX (k : Bool) (h : Heap) (it a : Addr) (i : Nat) : Prop := if k = true then h.IsListIter it a i else h.IsTupleIter it a i
def SeqX (k : Bool) (h : Heap) (a : Addr) (its : Array Value) : Prop := if k = true then h.IsList a its else h.IsTuple a its
theorem Inv.seqX {X : Cx} {pins : List (Addr × Obj)} {σ : L2.St} {H : Hp} {s : Shared} {k : Bool} {a : Addr} {xs : List V} (I : Inv X pins σ H s) (h : SqX k X.K H a xs) : ∃ its : List Value, Vals xs its ∧ SeqX k s.heap a its.toArray ∧ a < s.heap.objs.size := by
  cases k with
  | true =>
    obtain ⟨its, r, p, _⟩ := I.list (show SqL X.K H a xs from h)
    exact ⟨its, r, p.isList, p.lt⟩
  | false =>
    obtain ⟨its, r, p, _⟩ := I.tuple (show SqT X.K H a xs from h)
    obtain ⟨o, ho, _⟩ := id p
    exact ⟨its, r, p, Heap.lt_size ho⟩
theorem drawsX {prog : Program} {w : World} {A : Around} (k : Bool) (hh : A.handled = none) (it a : Addr) (hne : a ≠ it) (its : Array Value) : Draws prog w A it [it, a] its.size (fun i v => its[i]? = some v) (fun i h => IterX k h it a i ∧ SeqX k h a its) := by
  cases k with
  | true => exact Draws.list hh it a hne its
  | false => exact Draws.tuple hh it a hne its
def objX (k : Bool) (a : Addr) : Obj := { cls := .type (if k = true then "list_iterator" else "tuple_iterator"), data := .fields #[.ref a, .int 0 0] }
theorem beginsX (k : Bool) (a : Addr) (its : Array Value) : Begins (.ref a) (objX k a) fun h => SeqX k h a its := by
  cases k with
  | true => exact begins_list a its
  | false => exact begins_tuple a its
theorem IterX.at' {k : Bool} {h h' : Heap} {it a : Addr} {i : Nat} (x : IterX k h it a i) (q : ∀ o, h.get? it = some o → h'.get? it = some o) : IterX k h' it a i := by
  cases k with
  | true => exact Heap.IsListIter.at (show h.IsListIter it a i from x) q
  | false => exact Heap.IsTupleIter.at (show h.IsTupleIter it a i from x) q
theorem IterX.ex {k : Bool} {h : Heap} {it a : Addr} {i : Nat} (x : IterX k h it a i) : ∃ o, h.get? it = some o ∧ ∀ v, o.data ≠ .cell v := by
  cases k with
  | true =>
    obtain ⟨o, e, _, d⟩ := (show h.IsListIter it a i from x)
    exact ⟨o, e, fun v q => by rw [d] at q; cases q⟩
  | false =>
    obtain ⟨o, e, _, d⟩ := (show h.IsTupleIter it a i from x)
    exact ⟨o, e, fun v q => by rw [d] at q; cases q⟩
theorem IterX.new {k : Bool} {h : Heap} {it a : Addr} (e : h.get? it = some (objX k a)) : IterX k h it a 0 := by
  cases k with
  | true => exact ⟨_, e, rfl, rfl⟩
  | false => exact ⟨_, e, rfl, rfl⟩
end My

set_option Elab.async false
set_option linter.all false
set_option maxRecDepth 100000
set_option maxHeartbeats 4000000
namespace My
open PySem PySem.W PySem.Spec PyProof.Rows L2
/-- enumerate(zip(a, b)): each a list or a tuple as it stands -/
def Itez (K : PySem.W.Frag) (ka kb : Bool) (a b : Addr) (xs ys : List V) : It :=
  ⟨fun i H => SqX ka K H a xs ∧ SqX kb K H b ys ∧ i < xs.length ∧ i < ys.length,
    fun i H v H' => ∃ T Tp x y, v = .ref T ∧ H Tp = none ∧ (L2.upd H Tp (.tup [x, y])) T = none ∧ H' = L2.upd (L2.upd H Tp (.tup [x, y])) T (.tup [.int (i : Nat), .ref Tp]) ∧ xs[i]? = some x ∧ ys[i]? = some y,
    fun i H => SqX ka K H a xs ∧ SqX kb K H b ys ∧ (xs.length ≤ i ∨ ys.length ≤ i)⟩
abbrev fpEZ (N : Addr) : List Addr := [N + 5, N + 4, N + 2, N + 3, N, N + 1]
theorem mem_fpEZ {N c : Addr} (h : c ∈ fpEZ N) : c = N + 5 ∨ c = N + 4 ∨ c = N + 2 ∨ c = N + 3 ∨ c = N ∨ c = N + 1 := by simpa using h
theorem turn_ez {P : Program} {w : World} {K : PySem.W.Frag} {elts : List Expr} {kk : Nat} {tpos : Pos} {N a b : Addr} {ka kb : Bool} {xs ys : List V} (aN : a < N) (bN : b < N) :
    Turn P w K (.Tuple elts kk tpos) (Itez K ka kb a b xs ys) (fpEZ N) (N + 5) (fun i h => (∃ old, IsEnum h (N + 5) (N + 4) ((i : Nat) : Int) old) ∧ ZS h (N + 4) (N + 2) (N + 3) ∧ IsTupOf2 h (N + 2) (.ref N) (.ref (N + 1)) ∧ (∃ a1 a2, IsTupOf2 h (N + 3) a1 a2) ∧ IterX ka h N a i ∧ IterX kb h (N + 1) b i ∧ i ≤ xs.length ∧ i ≤ ys.length) where
  mem := by simp
  obj := fun i h st c hc => by
    obtain ⟨⟨old, he⟩, ⟨f0, f, hz, _⟩, hTI, ⟨a1, a2, hTO⟩, h1, h2, _, _⟩ := st
    rcases mem_fpEZ hc with q | q | q | q | q | q
    · rw [q]; exact ⟨_, he, fun v q => nomatch q⟩
    · rw [q]; exact ⟨_, hz, fun v q => nomatch q⟩
    · rw [q]; exact ⟨_, hTI, fun v q => nomatch q⟩
    · rw [q]; exact ⟨_, hTO, fun v q => nomatch q⟩
    · rw [q]; exact h1.ex
    · rw [q]; exact h2.ex
  keep := fun i h h' st k => by
    obtain ⟨⟨old, he⟩, ⟨f0, f, hz, hf⟩, hTI, ⟨a1, a2, hTO⟩, h1, h2, l1, l2⟩ := st
    exact ⟨⟨old, k _ (by simp) _ he⟩, ⟨f0, f, k _ (by simp) _ hz, hf⟩, k _ (by simp) _ hTI, ⟨a1, a2, k _ (by simp) _ hTO⟩, h1.at' fun o q => k _ (by simp) o q, h2.at' fun o q => k _ (by simp) o q, l1, l2⟩
  item := by
    intro X hP hw hK hc i pins s σ H E I hf st hg
    subst hP hw hK
    obtain ⟨⟨old, he⟩, hz, hTI, ⟨a1, a2, hTO⟩, h1, h2, l1, l2⟩ := st
    obtain ⟨hqx, hqy, g1, g2⟩ := hg
    obtain ⟨its1, rv1, p1, _⟩ := Inv.seqX I hqx
    obtain ⟨its2, rv2, p2, _⟩ := Inv.seqX I hqy
    have hl1 := rv1.length
    have hl2 := rv2.length
    have S := zip_sep2 (N := N) (fp1 := [a]) (fp2 := [b]) (fun c hc => by rw [List.mem_singleton.mp hc]; exact aN) (fun c hc => by rw [List.mem_singleton.mp hc]; exact bN)
    have d1 := drawsX (prog := X.prog) (w := X.w) (A := X.A.in1.in1) ka (I.ok.hd hc) N a (Nat.ne_of_lt aN) its1.toArray
    have d2 := drawsX (prog := X.prog) (w := X.w) (A := X.A.in1.in1) kb (I.ok.hd hc) (N + 1) b (Nat.ne_of_lt (Nat.lt_succ_of_lt bN)) its2.toArray
    have hT : s.TypeIs (.ref (N + 5)) "enumerate" := ⟨_, he, rfl⟩
    have hTz : s.TypeIs (.ref (N + 4)) "zip" := let ⟨_, _, q, _⟩ := hz; ⟨_, q, rfl⟩
    have hel : N + 5 < s.heap.objs.size := Heap.lt_size he
    have ne : ∀ {p q : Nat}, p < q → N + p ≠ N + q := fun h => Nat.ne_of_lt (Nat.add_lt_add_left h _)
    unfold pyNext
    refine wpAny_bind (wpAny_attempt (wpAny_callSpecial?_slot (name := Str.ofString "__next__") hT F.slot_enumerate_next (wpAny_call_entry F.slot_enumerate_next hT F.entry_enumerate_next (en_item he ?_) (F.args_enumerate_next_1 _))))
    unfold Builtin.SmallTypes.nextOf
    refine wpAny_bind (wpAny_callSpecial?_slot (name := Str.ofString "__next__") hTz F.slot_zip_next (wpAny_call_entry F.slot_zip_next hTz F.entry_zip_next
      (zs_item S d1 d2 hz hTI hTO ⟨h1, p1⟩ ⟨h2, p2⟩ (by rw [List.size_toArray]; omega) (by rw [List.size_toArray]; omega) fun x1 x2 k1 t1 q1 q2 zk1 tk1 w1 w2 new1 sz1 kp1 => wpAny_pure ⟨?_, fun k2 t2 eo2 new2 sz2 kp2 => wpAny_pure ⟨_, rfl, wpAny_letOwnedTupleGo_enum (s := { s with heap := k2, toks := t2 + 1 }) eo2 fun k3 e3 sb3 => ?_⟩⟩) (F.args_zip_next_1 _)))
    · exact kp1 _ _ (Ne.symm (ne (p := 4) (q := 5) (by decide))) (Ne.symm (ne (p := 3) (q := 5) (by decide))) (Ne.symm (ne (p := 0) (q := 5) (by decide))) (Ne.symm (ne (p := 1) (q := 5) (by decide))) he
    have sb3 : Heap.SameBut (N + 5) k2 k3 := sb3
    have new2 : k2.get? k1.objs.size = some { cls := .type "tuple", data := .seq #[.int (i : Int) t2, .ref s.heap.objs.size] } := new2
    have kp2 : ∀ c o, c ≠ N + 5 → k1.get? c = some o → k2.get? c = some o := kp2
    have hys1 : xs[i]? = some xs[i] := List.getElem?_eq_getElem g1
    have hys2 : ys[i]? = some ys[i] := List.getElem?_eq_getElem g2
    obtain ⟨u1, hu1, ru1⟩ := rv1.get hys1
    obtain ⟨u2, hu2, ru2⟩ := rv2.get hys2
    have e1 : u1 = x1 := Option.some.inj (hu1.symm.trans (by simpa using q1))
    have e2 : u2 = x2 := Option.some.inj (hu2.symm.trans (by simpa using q2))
    subst e1 e2
    have lt6 : ∀ c ∈ fpEZ N, c < s.heap.objs.size := fun c hcm => by
      have b5 : ∀ k, k ≤ 5 → N + k < s.heap.objs.size := fun k hk' => Nat.lt_of_le_of_lt (Nat.add_le_add_left hk' _) hel
      rcases mem_fpEZ hcm with q | q | q | q | q | q
      · rw [q]; exact hel
      · rw [q]; exact b5 4 (by decide)
      · rw [q]; exact b5 2 (by decide)
      · rw [q]; exact b5 3 (by decide)
      · rw [q]; exact b5 0 (by decide)
      · rw [q]; exact b5 1 (by decide)
    have ob1 : ObjOk X.prog X.w (L2.upd H s.heap.objs.size (.tup [xs[i], ys[i]])) k1 s.heap.objs.size (.tup [xs[i], ys[i]]) := ⟨by show 2 ≤ sizeLine; decide, [u1, u2], .cons ru1 (.cons ru2 .nil), ⟨_, new1, rfl, _, rfl⟩⟩
    have I1 : Inv X pins σ (L2.upd H s.heap.objs.size (.tup [xs[i], ys[i]])) { s with heap := k1, toks := t1 } :=
      I.turnedNew (t' := t1) (ch := fpEZ N) (fun c o hb q => kp1 c o (fun q' => hb (by simp [q'])) (fun q' => hb (by simp [q'])) (fun q' => hb (by simp [q'])) (fun q' => hb (by simp [q'])) q) hf (Nat.le_refl _) ob1
    have hf1 : ∀ c ∈ fpEZ N, FpOk X pins (L2.upd H s.heap.objs.size (.tup [xs[i], ys[i]])) c := fun c hcm => ⟨by rw [upd_ne (Nat.ne_of_lt (lt6 c hcm))]; exact (hf c hcm).1, (hf c hcm).2⟩
    have new3 : k3.get? k1.objs.size = some { cls := .type "tuple", data := .seq #[.int (i : Int) t2, .ref s.heap.objs.size] } := (sb3.2 _ (by rw [sz1]; exact Nat.ne_of_gt (Nat.lt_succ_of_lt hel))).trans new2
    have ob2 : ObjOk X.prog X.w (L2.upd (L2.upd H s.heap.objs.size (.tup [xs[i], ys[i]])) k1.objs.size (.tup [.int (i : Nat), .ref s.heap.objs.size])) k3 k1.objs.size (.tup [.int (i : Nat), .ref s.heap.objs.size]) := ⟨by show 2 ≤ sizeLine; decide, [.int (i : Int) t2, .ref s.heap.objs.size], .cons ⟨_, rfl⟩ (.cons rfl .nil), ⟨_, new3, rfl, _, rfl⟩⟩
    have I2 : Inv X pins σ (L2.upd (L2.upd H s.heap.objs.size (.tup [xs[i], ys[i]])) k1.objs.size (.tup [.int (i : Nat), .ref s.heap.objs.size])) { s with heap := k3, toks := t2 + 1 } :=
      I1.turnedNew (t' := t2 + 1) (ch := [N + 5]) (fun c o hb q => (sb3.2 c (by simpa using hb)).trans (kp2 c o (by simpa using hb) q)) (fun c hcm => hf1 c (by rw [List.mem_singleton.mp hcm]; simp)) (Nat.le_refl _) ob2
    have up : ∀ c o, c ≠ N + 5 → k1.get? c = some o → k3.get? c = some o := fun c o q e => (sb3.2 c q).trans (kp2 c o q e)
    obtain ⟨f0', f', zr', fz'⟩ := zk1
    obtain ⟨b1, b2, tq'⟩ := tk1
    refine ⟨.ref k1.objs.size, _, I2, rfl, ⟨_, _, xs[i], ys[i], rfl, I.hok.fresh (Nat.le_refl _), I1.hok.fresh (Nat.le_refl _), rfl, hys1, hys2⟩, ⟨⟨.ref s.heap.objs.size, ?_⟩, ⟨f0', f', up _ _ (ne (p := 4) (q := 5) (by decide)) zr', fz'⟩, ?_, ⟨b1, b2, up _ _ (ne (p := 3) (q := 5) (by decide)) tq'⟩, w1.1.at' fun o q => up _ _ (ne (p := 0) (q := 5) (by decide)) q, w2.1.at' fun o q => up _ _ (ne (p := 1) (q := 5) (by decide)) q, g1, g2⟩, fun c hcm => ?_⟩
    · have e3 : IsEnum k3 (N + 5) (N + 4) ((i : Int) + 1) (.ref s.heap.objs.size) := e3
      rw [show (((i + 1 : Nat) : Int)) = (i : Int) + 1 by omega]
      exact e3
    · exact up _ _ (ne (p := 2) (q := 5) (by decide)) (kp1 _ _ S.TIz S.TITO S.TIi1 S.TIi2 hTI)
    · rw [upd_ne (by rw [sz1]; exact Nat.ne_of_lt (Nat.lt_succ_of_lt (lt6 c hcm)))]
      exact (hf1 c hcm).1
  done := by
    intro X hP hw hK hc i pins s σ H E I hf st hg
    subst hP hw hK
    obtain ⟨⟨old, he⟩, hz, hTI, ⟨a1, a2, hTO⟩, h1, h2, l1, l2⟩ := st
    obtain ⟨hqx, hqy, hend⟩ := hg
    have hend : xs.length ≤ i ∨ ys.length ≤ i := hend
    obtain ⟨its1, rv1, p1, _⟩ := Inv.seqX I hqx
    obtain ⟨its2, rv2, p2, _⟩ := Inv.seqX I hqy
    have hl1 := rv1.length
    have hl2 := rv2.length
    have S := zip_sep2 (N := N) (fp1 := [a]) (fp2 := [b]) (fun c hc => by rw [List.mem_singleton.mp hc]; exact aN) (fun c hc => by rw [List.mem_singleton.mp hc]; exact bN)
    have d1 := drawsX (prog := X.prog) (w := X.w) (A := X.A.in1.in1) ka (I.ok.hd hc) N a (Nat.ne_of_lt aN) its1.toArray
    have d2 := drawsX (prog := X.prog) (w := X.w) (A := X.A.in1.in1) kb (I.ok.hd hc) (N + 1) b (Nat.ne_of_lt (Nat.lt_succ_of_lt bN)) its2.toArray
    have hT : s.TypeIs (.ref (N + 5)) "enumerate" := ⟨_, he, rfl⟩
    have hTz : s.TypeIs (.ref (N + 4)) "zip" := let ⟨_, _, q, _⟩ := hz; ⟨_, q, rfl⟩
    unfold pyNext
    refine wpAny_bind (wpAny_attempt (wpAny_callSpecial?_slot (name := Str.ofString "__next__") hT F.slot_enumerate_next (wpAny_call_entry F.slot_enumerate_next hT F.entry_enumerate_next ?_ (F.args_enumerate_next_1 _))))
    show wpAny _ _ (field (.ref (N + 5)) 2 >>= fun _ => _) _ _ _
    refine wpAny_bind (wpAny_field he rfl (x := .ref (N + 4)) rfl (wpAny_bind ?_))
    unfold Builtin.SmallTypes.nextOf
    refine wpAny_bind (wpAny_callSpecial?_slot (name := Str.ofString "__next__") hTz F.slot_zip_next (wpAny_call_entry F.slot_zip_next hTz F.entry_zip_next
      (zs_end S d1 d2 hz hTI hTO ⟨h1, p1⟩ ⟨h2, p2⟩ (by rw [List.size_toArray]; omega) (by rw [List.size_toArray]; omega) (by rw [List.size_toArray, List.size_toArray]; omega) fun q t e kq hx => ?_) (F.args_zip_next_1 _)))
    obtain ⟨o, ho, hco⟩ := hx
    refine wpAny_bind (wpAny_isInstance (T := "StopIteration") (b := true) ⟨o, ho, hco⟩ isSubtype_stop (wpAny_pure ⟨rfl, ?_⟩))
    exact I.turnedL (t' := t) (ch := fpEZ N) (fun c o hb q => kq c o (fun q' => hb (by simp [q'])) (fun q' => hb (by simp [q'])) (fun q' => hb (by simp [q'])) (fun q' => hb (by simp [q'])) q) hf
  self := fun A i s Q E st h => let ⟨⟨_, he⟩, _⟩ := st; wpAny_pyIter_enum he h
def iEZ (K : PySem.W.Frag) (ta : TA) : TI := fun σ H R => ta σ H fun vs H1 => ∃ ka kb a b xs ys, vs = [.ref a, .ref b] ∧ SqX ka K H1 a xs ∧ SqX kb K H1 b ys ∧ R (Itez K ka kb a b xs ys) H1
theorem pi_ez {X : Cx} {e e2 : Expr} {ta : TA} {p p2 pos pos2 tpos : Pos} {elts : List Expr} {kk : Nat} (hg : Gl X "enumerate") (hm : X.mg "enumerate" = none) (hg2 : Gl X "zip") (hm2 : X.mg "zip" = none) (ha : PA X [e, e2] ta)
    (hs1 : starEach [.Call (.Name "zip" p2) [e, e2] [] pos2] X.env = (false, eval (.Call (.Name "zip" p2) [e, e2] [] pos2) X.env) :: starEach [] X.env := by rfl)
    (hs : starEach [e, e2] X.env = (false, eval e X.env) :: starEach [e2] X.env := by rfl) (hpl : (backTo pos2 (starEach [e2] X.env)).any (·.1) = false := by rfl) :
    PI X (.Tuple elts kk tpos) (.Call (.Name "enumerate" p) [.Call (.Name "zip" p2) [e, e2] [] pos2] [] pos) (iEZ X.K ta) := by
  refine ⟨fun pins s σ H R I h => ?_⟩
  refine Call_ (ld_blt I hg hm boot_enumerate (PyProof.Rows.callWith_type1 (args_cons ?_ hs1) hs1 rfl))
  refine Call_ (ld_blt I hg2 hm2 PyProof.Rows.boot_zip (PyProof.Rows.callWith_type1 (thn (ha.run pos2 pins s σ H _ I h) fun us s1 ⟨vs, H1, I1, r1, q1⟩ => ?_) hs hpl))
  obtain ⟨ka, kb, a, b, xs, ys, ex, hx, hy, q⟩ := q1
  subst ex
  cases r1 with
  | cons r rr =>
    cases rr with
    | cons r' rr =>
      cases rr
      cases r
      cases r'
      obtain ⟨its1, rv1, p1, lt1⟩ := Inv.seqX I1 hx
      obtain ⟨its2, rv2, p2, lt2⟩ := Inv.seqX I1 hy
      refine zip_begins2 (beginsX ka a its1.toArray) (beginsX kb b its2.toArray) p1 p2 fun h' hz hTI hTO h1 h2 hsz hk => args_nil ?_
      refine call_enZ (s := { s1 with heap := h' }) hz fun g he sz kg => wpAny_pyIter_enum he ?_
      have kall : ∀ c o, s1.heap.get? c = some o → g.get? c = some o := fun c o e => kg c o (hk c o e)
      have I2 : Inv X pins σ H1 { s1 with heap := g } := I1.kept (t' := s1.toks) kall
      have he : IsEnum g (s1.heap.objs.size + 5) (s1.heap.objs.size + 4) 0 .none := by rw [← hsz]; exact he
      refine ⟨s1.heap.objs.size + 5, fpEZ s1.heap.objs.size, _, _, H1, by show Value.ref h'.objs.size = _; rw [hsz], I2, turn_ez (xs := xs) (ys := ys) (ka := ka) (kb := kb) lt1 lt2, ⟨⟨.none, he⟩, ⟨.none, false, kg _ _ hz, .inl rfl⟩, kg _ _ hTI, ⟨_, _, kg _ _ hTO⟩, .new (kg _ _ h1), .new (kg _ _ h2), Nat.zero_le _, Nat.zero_le _⟩, fun c hcm => ?_, q⟩
      have hle : s1.heap.objs.size ≤ c := by
        rcases mem_fpEZ hcm with z | z | z | z | z | z
        · rw [z]; exact Nat.le_add_right _ _
        · rw [z]; exact Nat.le_add_right _ _
        · rw [z]; exact Nat.le_add_right _ _
        · rw [z]; exact Nat.le_add_right _ _
        · rw [z]; exact Nat.le_refl _
        · rw [z]; exact Nat.le_add_right _ _
      exact I1.fpOk hle (I1.hok.fresh hle)
theorem walk_ez {K : PySem.W.Frag} {ka kb : Bool} {a b : Addr} {xs ys : List V} (hl : xs.length = ys.length) : Walk (Itez K ka kb a b xs ys) xs.length (fun H => SqX ka K H a xs ∧ SqX kb K H b ys)
    (fun i H v H' => ∃ T Tp x y, v = .ref T ∧ H Tp = none ∧ (L2.upd H Tp (.tup [x, y])) T = none ∧ H' = L2.upd (L2.upd H Tp (.tup [x, y])) T (.tup [.int (i : Nat), .ref Tp]) ∧ xs[i]? = some x ∧ ys[i]? = some y) :=
  ⟨fun i H hi q => ⟨q.1, q.2, hi, by omega⟩, fun H q => ⟨q.1, q.2, .inl (Nat.le_refl _)⟩, fun _ _ _ _ _ _ y => y⟩
end My

set_option Elab.async false
set_option linter.all false
set_option maxRecDepth 100000
set_option maxHeartbeats 4000000
namespace My
open PySem PySem.W PySem.Spec PyProof.Rows L2
/-- enumerate(a): a list or a tuple as it stands -/
def Itex (K : PySem.W.Frag) (ka : Bool) (a : Addr) (xs : List V) : It :=
  ⟨fun i H => SqX ka K H a xs ∧ i < xs.length, fun i H v H' => ∃ T x, v = .ref T ∧ H T = none ∧ H' = L2.upd H T (.tup [.int (i : Nat), x]) ∧ xs[i]? = some x, fun i H => SqX ka K H a xs ∧ xs.length ≤ i⟩
theorem turn_ex {P : Program} {w : World} {K : PySem.W.Frag} {elts : List Expr} {kk : Nat} {tpos : Pos} {N a : Addr} {ka : Bool} {xs : List V} (aN : a < N) :
    Turn P w K (.Tuple elts kk tpos) (Itex K ka a xs) [N + 1, N] (N + 1) (fun i h => (∃ old, IsEnum h (N + 1) N ((i : Nat) : Int) old) ∧ IterX ka h N a i ∧ i ≤ xs.length) where
  mem := by simp
  obj := fun i h st c hc => by
    obtain ⟨⟨old, he⟩, h1, _⟩ := st
    rcases (show c = N + 1 ∨ c = N by simpa using hc) with q | q
    · rw [q]; exact ⟨_, he, fun v q => nomatch q⟩
    · rw [q]; exact h1.ex
  keep := fun i h h' st k => by
    obtain ⟨⟨old, he⟩, h1, l1⟩ := st
    exact ⟨⟨old, k _ (by simp) _ he⟩, h1.at' fun o q => k _ (by simp) o q, l1⟩
  item := by
    intro X hP hw hK hc i pins s σ H E I hf st hg
    subst hP hw hK
    obtain ⟨⟨old, he⟩, h1, l1⟩ := st
    obtain ⟨hqx, g1⟩ := hg
    obtain ⟨its1, rv1, p1, _⟩ := Inv.seqX I hqx
    have hl1 := rv1.length
    have d1 := drawsX (prog := X.prog) (w := X.w) (A := X.A.in1) ka (I.ok.hd hc) N a (Nat.ne_of_lt aN) its1.toArray
    have hT : s.TypeIs (.ref (N + 1)) "enumerate" := ⟨_, he, rfl⟩
    have hel : N + 1 < s.heap.objs.size := Heap.lt_size he
    have nz : N + 1 ≠ N := Nat.succ_ne_self _
    unfold pyNext
    refine wpAny_bind (wpAny_attempt (wpAny_callSpecial?_slot (name := Str.ofString "__next__") hT F.slot_enumerate_next (wpAny_call_entry F.slot_enumerate_next hT F.entry_enumerate_next (en_item he ?_) (F.args_enumerate_next_1 _))))
    refine d1.item i s _ _ (by rw [List.size_toArray]; omega) ⟨h1, p1⟩ fun x1 k1 t1 q1 w1 sb1 => ⟨sb1.extBut _ _ nz he, fun k2 t2 eo2 new2 sz2 kp2 => wpAny_pure ⟨_, rfl, wpAny_letOwnedTupleGo_enum (s := { s with heap := k2, toks := t2 + 1 }) eo2 fun k3 e3 sb3 => ?_⟩⟩
    have sb1 : Heap.SameBut N s.heap k1 := sb1
    have sb3 : Heap.SameBut (N + 1) k2 k3 := sb3
    have new2 : k2.get? k1.objs.size = some { cls := .type "tuple", data := .seq #[.int (i : Int) t2, x1] } := new2
    have kp2 : ∀ c o, c ≠ N + 1 → k1.get? c = some o → k2.get? c = some o := kp2
    rw [sb1.1] at new2
    have hys1 : xs[i]? = some xs[i] := List.getElem?_eq_getElem g1
    obtain ⟨u1, hu1, ru1⟩ := rv1.get hys1
    have e1 : u1 = x1 := Option.some.inj (hu1.symm.trans (by simpa using q1))
    subst e1
    have new3 : k3.get? s.heap.objs.size = some { cls := .type "tuple", data := .seq #[.int (i : Int) t2, u1] } := (sb3.2 _ (Nat.ne_of_gt hel)).trans new2
    have ob2 : ObjOk X.prog X.w (L2.upd H s.heap.objs.size (.tup [.int (i : Nat), xs[i]])) k3 s.heap.objs.size (.tup [.int (i : Nat), xs[i]]) := ⟨by show 2 ≤ sizeLine; decide, [.int (i : Int) t2, u1], .cons ⟨_, rfl⟩ (.cons ru1 .nil), ⟨_, new3, rfl, _, rfl⟩⟩
    have up : ∀ c o, c ≠ N + 1 → c ≠ N → s.heap.get? c = some o → k3.get? c = some o := fun c o q q' e => (sb3.2 c q).trans (kp2 c o q (sb1.extBut _ _ q' e))
    have I2 : Inv X pins σ (L2.upd H s.heap.objs.size (.tup [.int (i : Nat), xs[i]])) { s with heap := k3, toks := t2 + 1 } :=
      I.turnedNew (t' := t2 + 1) (ch := [N + 1, N]) (fun c o hb q => up c o (fun z => hb (by simp [z])) (fun z => hb (by simp [z])) q) hf (Nat.le_refl _) ob2
    refine ⟨.ref s.heap.objs.size, _, I2, by show Value.ref k1.objs.size = _; rw [sb1.1], ⟨_, xs[i], rfl, I.hok.fresh (Nat.le_refl _), rfl, hys1⟩, ⟨⟨u1, ?_⟩, w1.1.at' fun o q => (sb3.2 _ nz.symm).trans (kp2 _ _ nz.symm q), g1⟩, fun c hcm => ?_⟩
    · have e3 : IsEnum k3 (N + 1) N ((i : Int) + 1) u1 := e3
      rw [show (((i + 1 : Nat) : Int)) = (i : Int) + 1 by omega]
      exact e3
    · have hlt : c < s.heap.objs.size := by
        rcases (show c = N + 1 ∨ c = N by simpa using hcm) with q | q
        · rw [q]; exact hel
        · rw [q]; exact Nat.lt_of_succ_lt hel
      rw [upd_ne (Nat.ne_of_lt hlt)]
      exact (hf c hcm).1
  done := by
    intro X hP hw hK hc i pins s σ H E I hf st hg
    subst hP hw hK
    obtain ⟨⟨old, he⟩, h1, l1⟩ := st
    obtain ⟨hqx, hend⟩ := hg
    have hend : xs.length ≤ i := hend
    obtain ⟨its1, rv1, p1, _⟩ := Inv.seqX I hqx
    have hl1 := rv1.length
    have d1 := drawsX (prog := X.prog) (w := X.w) (A := X.A.in1) ka (I.ok.hd hc) N a (Nat.ne_of_lt aN) its1.toArray
    have ei : i = its1.toArray.size := by rw [List.size_toArray]; omega
    refine wpAny_pyNext_enum_endD d1 he ⟨by rw [← ei]; exact h1, p1⟩ fun h' eb => ⟨rfl, ?_⟩
    exact I.turnedL (t' := s.toks) (ch := [N + 1, N]) (fun c o hb q => eb c o (fun z => hb (by simp [z])) q) hf
  self := fun A i s Q E st h => let ⟨⟨_, he⟩, _⟩ := st; wpAny_pyIter_enum he h
def iEX (K : PySem.W.Frag) (te : TE) : TI := fun σ H R => te σ H fun v H1 => ∃ ka a xs, v = .ref a ∧ SqX ka K H1 a xs ∧ R (Itex K ka a xs) H1
theorem meets_enX (k : Bool) (a : Addr) (its : Array Value) : Meets (Builtin.«enumerate.__new__» ⟨[.type "enumerate", .ref a], []⟩) (fun _ R s => SeqX k s.heap a its ∧
    R (.ok (.ret (.ref (s.heap.push (objX k a)).objs.size))) { s with heap := (s.heap.push (objX k a)).push { cls := .type "enumerate", data := .fields #[.none, .bool false, .ref s.heap.objs.size, rawInt 0, .none, .none] } }) :=
  .of_wp fun prog w A R s hh => by
    obtain ⟨H0, ge, dr, t0, oo⟩ := s
    obtain ⟨hz, hR⟩ := hh
    have hs := sub_enumerate
    have ow : ∀ {A' : Around} {E : Value → Shared → Prop} {Q : Value → Shared → Prop}, Q (.ref H0.objs.size) ⟨H0.push (objX k a), ge, dr, t0, oo⟩ → wpAny (model prog w) A' (pyIter (.ref a)) Q E ⟨H0, ge, dr, t0, oo⟩ := fun q => (beginsX k a its).iter prog w _ _ ⟨H0, ge, dr, t0, oo⟩ _ hz q
    wp_walk using ow
    refine wpAny_stack_any (fun stk => wpAny_pure ?_)
    split
    · rename_i cl _ _ _ _ _
      cases hcl : (cl == Value.type "enumerate") <;> (wp_walk using ow) <;> exact ⟨_, rfl, hR⟩
    · wp_walk using ow
      exact ⟨_, rfl, hR⟩
theorem pi_ex {X : Cx} {e : Expr} {te : TE} {p pos tpos : Pos} {elts : List Expr} {kk : Nat} (hg : Gl X "enumerate") (hm : X.mg "enumerate" = none) (he : PE X e te)
    (hs1 : starEach [e] X.env = (false, eval e X.env) :: starEach [] X.env := by rfl) : PI X (.Tuple elts kk tpos) (.Call (.Name "enumerate" p) [e] [] pos) (iEX X.K te) := by
  refine ⟨fun pins s σ H R I h => ?_⟩
  refine Call_ (ld_blt I hg hm boot_enumerate (PyProof.Rows.callWith_type1 (one_arg he I h (fun u s1 x H1 I1 r1 q1 => ?_) hs1) hs1 rfl))
  obtain ⟨ka, a, xs, ex, hx, q⟩ := q1
  subst ex
  cases r1
  obtain ⟨its1, rv1, p1, lt1⟩ := Inv.seqX I1 hx
  have hz : (s1.heap.push (objX ka a)).objs.size = s1.heap.objs.size + 1 := Heap.size_push ..
  have e0 : ((s1.heap.push (objX ka a)).push { cls := .type "enumerate", data := .fields #[.none, .bool false, .ref s1.heap.objs.size, rawInt 0, .none, .none] }).get? (s1.heap.objs.size + 1) = some { cls := .type "enumerate", data := .fields #[.none, .bool false, .ref s1.heap.objs.size, rawInt 0, .none, .none] } := by
    rw [← hz]; exact Heap.get?_push_size _ rfl
  refine callType_new F.called_enumerate (by decide) (F.typeCall_enumerate_1 _) (F.newCall_enumerate_1 _) (fun obj => F.args_object_init_2 obj _) F.entry_enumerate_new (meets_enX ka a its1.toArray) ⟨p1, ?_⟩
  show _ ∧ _
  rw [hz]
  refine ⟨⟨_, e0, rfl⟩, wpAny_pyIter_enum e0 ?_⟩
  have kall : ∀ c o, s1.heap.get? c = some o → ((s1.heap.push (objX ka a)).push { cls := .type "enumerate", data := .fields #[.none, .bool false, .ref s1.heap.objs.size, rawInt 0, .none, .none] }).get? c = some o := fun c o e => Heap.get?_push_of_some _ (Heap.get?_push_of_some _ e)
  refine ⟨s1.heap.objs.size + 1, [s1.heap.objs.size + 1, s1.heap.objs.size], _, _, H1, rfl, I1.kept (t' := s1.toks) kall, turn_ex (xs := xs) (ka := ka) lt1, ⟨⟨.none, e0⟩, .new (Heap.get?_push_of_some _ (Heap.get?_push_size _ (beginsX ka a its1.toArray).free)), Nat.zero_le _⟩, fun c hcm => ?_, q⟩
  have hle : s1.heap.objs.size ≤ c := by
    rcases (show c = s1.heap.objs.size + 1 ∨ c = s1.heap.objs.size by simpa using hcm) with z | z
    · rw [z]; exact Nat.le_add_right _ _
    · rw [z]; exact Nat.le_refl _
  exact I1.fpOk hle (I1.hok.fresh hle)
theorem walk_ex {K : PySem.W.Frag} {ka : Bool} {a : Addr} {xs : List V} : Walk (Itex K ka a xs) xs.length (fun H => SqX ka K H a xs) (fun i H v H' => ∃ T x, v = .ref T ∧ H T = none ∧ H' = L2.upd H T (.tup [.int (i : Nat), x]) ∧ xs[i]? = some x) :=
  ⟨fun i H hi q => ⟨q, hi⟩, fun H q => ⟨q, Nat.le_refl _⟩, fun _ _ _ _ _ _ y => y⟩
end My

set_option Elab.async false
set_option linter.all false
set_option maxRecDepth 100000
set_option maxHeartbeats 4000000
namespace My
open PySem L2
theorem asg_1 {te : TE} {i : Nat} {D : Ends} {σ : L2.St} {H : Hp} (h : te σ H fun x H1 => D.nx (σ.set i (some x)) H1) : tAsg te (gName i) D σ H := h
/-! ### rows of passes -/
def vO : Option Int → V
  | none => .non
  | some i => .int i
def ovd : Option Int → Option Int → Bool
  | some p, some q => decide (q ≤ p)
  | _, _ => false
abbrev Row := List (Option Int)
def at' (r : Row) (k : Nat) : Option Int := r.getD k none
def diff (ps qs : Row) (k : Nat) : Int := (at' ps k).getD 0 - (at' qs k).getD 0
def late (ps qs : Row) (k : Nat) : Bool := ovd (at' ps k) (at' qs k)
def stepB (ps qs : Row) : Option Nat → Nat → Option Nat
  | none, k => some k
  | some j, k => if diff ps qs j < diff ps qs k then some k else some j
def lates (ps qs : Row) (i : Nat) : List Nat := (List.range i).filter (late ps qs)
def bestU (ps qs : Row) (i : Nat) : Option Nat := (lates ps qs i).foldl (stepB ps qs) none
def stand (ps : Row) (k : Nat) : Bool := (at' ps k).isSome
def stands (ps : Row) (i : Nat) : List Nat := (List.range i).filter (stand ps)
def vN : Option Nat → V
  | none => .non
  | some k => .int (k : Nat)
/-- the rank that is due -/
def dueV (ps qs : Row) : V := match bestU ps qs ps.length with
  | some k => .int (k : Nat)
  | none => vN (stands ps ps.length).head?
theorem lates_succ (ps qs : Row) (i : Nat) : lates ps qs (i + 1) = lates ps qs i ++ (if late ps qs i = true then [i] else []) := by
  unfold lates
  rw [List.range_succ, List.filter_append]
  by_cases h : late ps qs i = true
  · rw [if_pos h, List.filter_cons_of_pos h]; rfl
  · rw [if_neg h, List.filter_cons_of_neg h]; rfl
theorem stands_succ (ps : Row) (i : Nat) : stands ps (i + 1) = stands ps i ++ (if stand ps i = true then [i] else []) := by
  unfold stands
  rw [List.range_succ, List.filter_append]
  by_cases h : stand ps i = true
  · rw [if_pos h, List.filter_cons_of_pos h]; rfl
  · rw [if_neg h, List.filter_cons_of_neg h]; rfl
theorem bestU_succ (ps qs : Row) (i : Nat) : bestU ps qs (i + 1) = if late ps qs i = true then stepB ps qs (bestU ps qs i) i else bestU ps qs i := by
  unfold bestU
  rw [lates_succ, List.foldl_append]
  by_cases h : late ps qs i = true
  · rw [if_pos h, if_pos h]; rfl
  · rw [if_neg h, if_neg h]; rfl
theorem at_some {r : Row} {i : Nat} {x : Option Int} (h : r[i]? = some x) : at' r i = x := by
  unfold at'
  rw [List.getD_eq_getElem?_getD, h]; rfl
theorem row_at {r : Row} {i : Nat} {v : V} (h : (r.map vO)[i]? = some v) : v = vO (at' r i) ∧ i < r.length := by
  rw [List.getElem?_map] at h
  obtain ⟨x, hx, rfl⟩ := Option.map_eq_some_iff.mp h
  exact ⟨by rw [at_some hx], (List.getElem?_eq_some_iff.mp hx).1⟩
theorem row_get {r : Row} {i : Nat} (h : i < r.length) : (r.map vO)[i]? = some (vO (at' r i)) := by
  rw [List.getElem?_map, List.getElem?_eq_getElem h, at_some (List.getElem?_eq_getElem h)]; rfl
section
variable {P : Program} {w : World} {K : PySem.W.Frag} {mg : Str → Option Value} {pB : Heap}
/-- how much more than its patience the best rank so far has -/
def mostU (ps qs : Row) (i : Nat) : Int := match bestU ps qs i with
  | some k => diff ps qs k
  | none => -1
theorem best_ge (ps qs : Row) (i : Nat) : ∀ k, bestU ps qs i = some k → 0 ≤ diff ps qs k := by
  induction i with
  | zero => intro k e; cases e
  | succ n ih =>
    intro k e
    rw [bestU_succ] at e
    have ld : ∀ j, late ps qs j = true → 0 ≤ diff ps qs j := by
      intro j h
      unfold late at h
      unfold diff
      cases hp : at' ps j with
      | none => rw [hp] at h; cases h
      | some p =>
        cases hq : at' qs j with
        | none => rw [hp, hq] at h; cases h
        | some q =>
          rw [hp, hq] at h
          have := of_decide_eq_true h
          show 0 ≤ p - q
          omega
    by_cases h : late ps qs n = true
    · rw [if_pos h] at e
      cases hb : bestU ps qs n with
      | none => rw [hb] at e; cases e; exact ld _ h
      | some j =>
        rw [hb, stepB] at e
        by_cases hd : diff ps qs j < diff ps qs n
        · rw [if_pos hd] at e; cases e; exact ld _ h
        · rw [if_neg hd] at e; cases e; exact ih _ hb
    · rw [if_neg h] at e
      exact ih k e
/-- one rank more: with a patience -/
theorem best_step (ps qs : Row) (i : Nat) {p q : Int} (ep : at' ps i = some p) (eq : at' qs i = some q) :
    (mostU ps qs i < p - q → bestU ps qs (i + 1) = some i ∧ mostU ps qs (i + 1) = p - q) ∧ (¬ mostU ps qs i < p - q → bestU ps qs (i + 1) = bestU ps qs i) := by
  have ed : diff ps qs i = p - q := by unfold diff; rw [ep, eq]; rfl
  have el : late ps qs i = decide (q ≤ p) := by unfold late; rw [ep, eq]; rfl
  have eb := bestU_succ ps qs i
  have eu : bestU ps qs (i + 1) = some i → mostU ps qs (i + 1) = p - q := fun h => by unfold mostU; rw [h, ← ed]
  cases hB : bestU ps qs i with
  | none =>
    have em : mostU ps qs i = -1 := by unfold mostU; rw [hB]
    rw [hB, el] at eb
    rw [em]
    refine ⟨fun h => ?_, fun h => ?_⟩
    · rw [if_pos (decide_eq_true (by omega))] at eb
      exact ⟨eb, eu eb⟩
    · rw [if_neg (by simp; omega)] at eb
      exact eb
  | some j =>
    have em : mostU ps qs i = diff ps qs j := by unfold mostU; rw [hB]
    have h0 := best_ge ps qs i j hB
    rw [hB, el] at eb
    rw [em]
    refine ⟨fun h => ?_, fun h => ?_⟩
    · rw [if_pos (decide_eq_true (by omega)), stepB, if_pos (by omega)] at eb
      exact ⟨eb, eu eb⟩
    · by_cases hq : q ≤ p
      · rw [if_pos (decide_eq_true hq), stepB, if_neg (by omega)] at eb
        exact eb
      · rw [if_neg (by simp; omega)] at eb
        exact eb
theorem best_no (ps qs : Row) (i : Nat) (h : late ps qs i = false) : bestU ps qs (i + 1) = bestU ps qs i ∧ mostU ps qs (i + 1) = mostU ps qs i := by
  have eb := bestU_succ ps qs i
  rw [h] at eb
  have eb : bestU ps qs (i + 1) = bestU ps qs i := eb
  exact ⟨eb, by unfold mostU; rw [eb]⟩
theorem most_same {ps qs : Row} {i : Nat} (h : bestU ps qs (i + 1) = bestU ps qs i) : mostU ps qs (i + 1) = mostU ps qs i := by unfold mostU; rw [h]
end
end My

set_option Elab.async false
set_option linter.all false
set_option maxRecDepth 100000
set_option maxHeartbeats 4000000
namespace My
open PySem L2 PyProof.Rows
/-! ### a work is made -/
abbrev FnDd (K : PySem.W.Frag) (d : He.DefD) (f : Addr) (fd : FuncData) : Prop := FunD K d.name d.qual d.params d.body d.scope (d.dvs K) (d.kws K) f fd
/-- a class whose instances are plain, none of the names its own -/
structure ClsF (K : PySem.W.Frag) (C : Addr) (fs : List Str) : Prop where
  c : Cls K C
  n : ∀ f ∈ fs, NoAttr K C f
section
variable {P : Program} {w : World} {K : PySem.W.Frag} {mg : Str → Option Value} {pB : Heap}
def fWork : List Str := ["number", "name", "script", "told", "pledge", "around", "text"]
def workF (n nm sc td pl ar tx : V) : List (Str × V) := [("number", n), ("name", nm), ("script", sc), ("told", td), ("pledge", pl), ("around", ar), ("text", tx)]
def spWork (C : Addr) : Sp := fun vs H Q _ => ∃ (a dx : Addr) (n nm sc td pl ar : V), vs = [.ref a, n, nm, sc, td, pl, ar] ∧ H a = some (.ins C dx []) ∧ Q .non (upd H a (.ins C dx (workF n nm sc td pl ar .non)))
abbrev nWork : List Str := ["self", "number", "name", "script", "told", "pledge", "around"]
theorem scWork : FnScope nWork nWork (d_Work_init).scope := ⟨rfl, rfl, rfl, by decide +kernel, rfl, by decide +kernel, by decide +kernel⟩
theorem fld_of {ta tv : TE} {f : Str} {b : TS} {D : Ends} {σ : L2.St} {H : Hp} (h : tv σ H fun y H1 => ta σ H1 fun x H2 => ∃ a C dx fs, x = .ref a ∧ H2 a = some (.ins C dx fs) ∧ Cls K C ∧ NoAttr K C f ∧ fs.length < 1000 ∧ b D σ (upd H2 a (.ins C dx (putF f y fs)))) : tSeq (sFld K ta tv f) b D σ H := h
theorem ok_work {C f : Addr} {fd : FuncData} (F : FnDd K d_Work_init f fd) (hC : ClsF K C fWork) : FnOk P w K mg pB CX0 1 f fd nWork (spWork C) := by
  refine F.ok scWork (fun vs H Q E h => ?_) (fun cdv A outer s H vs Q E hr h => ?_)
  · obtain ⟨a, dx, n, nm, sc, td, pl, ar, rfl, _⟩ := h
    rfl
  · obtain ⟨a, dx, n, nm, sc, td, pl, ar, rfl, e, k⟩ := h
    refine ⟨_, pss_cons (ps_fld (pv 0) (pv 1) (by rfl)) (pss_cons (ps_fld (pv 0) (pv 2) (by rfl)) (pss_cons (ps_fld (pv 0) (pv 3) (by rfl)) (pss_cons (ps_fld (pv 0) (pv 4) (by rfl)) (pss_cons (ps_fld (pv 0) (pv 5) (by rfl)) (pss_cons (ps_fld (pv 0) (pv 6) (by rfl)) (pss_one (ps_fld (pv 0) pe_non (by rfl)))))))), ?_⟩
    refine fld_of ⟨_, rfl, _, rfl, a, C, dx, _, rfl, e, hC.c, hC.n _ (by decide), (show 0 < 1000 by decide), ?_⟩
    refine fld_of ⟨_, rfl, _, rfl, a, C, dx, _, rfl, upd_same, hC.c, hC.n _ (by decide), (show 1 < 1000 by decide), ?_⟩
    rw [upd_upd]
    refine fld_of ⟨_, rfl, _, rfl, a, C, dx, _, rfl, upd_same, hC.c, hC.n _ (by decide), (show 2 < 1000 by decide), ?_⟩
    rw [upd_upd]
    refine fld_of ⟨_, rfl, _, rfl, a, C, dx, _, rfl, upd_same, hC.c, hC.n _ (by decide), (show 3 < 1000 by decide), ?_⟩
    rw [upd_upd]
    refine fld_of ⟨_, rfl, _, rfl, a, C, dx, _, rfl, upd_same, hC.c, hC.n _ (by decide), (show 4 < 1000 by decide), ?_⟩
    rw [upd_upd]
    refine fld_of ⟨_, rfl, _, rfl, a, C, dx, _, rfl, upd_same, hC.c, hC.n _ (by decide), (show 5 < 1000 by decide), ?_⟩
    rw [upd_upd]
    refine ⟨_, rfl, a, C, dx, _, rfl, upd_same, hC.c, hC.n _ (by decide), (show 6 < 1000 by decide), ?_⟩
    rw [upd_upd]
    exact k
end
end My

set_option Elab.async false
set_option linter.all false
set_option maxRecDepth 100000
set_option maxHeartbeats 4000000
namespace My
open PySem L2 PyProof.Rows
/-! ### a state's fields -/
def fState : List Str := ["setup", "book", "picks", "since", "queues", "clock", "numbers", "events", "shown", "micros", "timers", "idles", "soonest", "opened", "done", "flooded", "asking", "busy"]
/-- a state as the loops of k04 have it: no timers, micros, idles; never busy -/
structure SF where
  setup : V
  book : V
  picks : Int
  since : Addr
  queues : Addr
  clock : V
  numbers : Int
  events : Addr
  shown : V
  micros : V
  timers : V
  idles : V
  opened : V
def SF.fs (s : SF) : List (Str × V) := [("setup", s.setup), ("book", s.book), ("picks", .int s.picks), ("since", .ref s.since), ("queues", .ref s.queues), ("clock", s.clock), ("numbers", .int s.numbers), ("events", .ref s.events), ("shown", s.shown), ("micros", s.micros), ("timers", s.timers), ("idles", s.idles), ("soonest", .non), ("opened", s.opened), ("done", .int 0), ("flooded", .bl false), ("asking", .non), ("busy", .bl false)]
section
variable {P : Program} {w : World} {K : PySem.W.Frag} {mg : Str → Option Value} {pB : Heap}
def spNew (C : Addr) : Sp := fun vs H Q _ => ∃ (a dx : Addr) (s : SF), vs = [.ref a] ∧ H a = some (.ins C dx s.fs) ∧ Q (.int s.numbers) (upd H a (.ins C dx { s with numbers := s.numbers + 1 }.fs))
theorem scNew : FnScope ["state", "number"] ["state"] (d_new_number).scope := ⟨rfl, rfl, rfl, by decide +kernel, rfl, by decide +kernel, by decide +kernel⟩
theorem ok_new {C f : Addr} {fd : FuncData} (F : FnDd K d_new_number f fd) (hC : ClsF K C fState) : FnOk P w K mg pB CX0 1 f fd ["state"] (spNew C) := by
  refine F.ok scNew (fun vs H Q E h => ?_) (fun cdv A outer s0 H vs Q E hr h => ?_)
  · obtain ⟨a, dx, s, rfl, _⟩ := h
    rfl
  · obtain ⟨a, dx, s, rfl, e, k⟩ := h
    have nd := scNew.nd
    refine ⟨_, pss_cons (ps_set (i := 1) nd rfl (Or.inl rfl) (pe_fld (pv 0) (by rfl))) (pss_cons (ps_fld (pv 0) (pe_op op_add (pv 1) pe_int) (by rfl)) (pss_one (ps_ret (pv 1)))), ?_⟩
    refine ⟨_, rfl, a, C, dx, _, .int s.numbers, rfl, e, hC.c, hC.n _ (by decide), rfl, ?_⟩
    refine ⟨_, rfl, _, _, rfl, rfl, _, rfl, a, C, dx, _, rfl, e, hC.c, hC.n _ (by decide), (show 18 < 1000 by decide), ?_⟩
    exact ⟨_, rfl, k⟩
end
end My

set_option Elab.async false
set_option linter.all false
set_option maxRecDepth 100000
set_option maxHeartbeats 4000000
namespace My
open PySem L2 PyProof.Rows
section
variable {P : Program} {w : World} {K : PySem.W.Frag} {mg : Str → Option Value} {pB : Heap}
theorem ixN_lt {n j : Nat} (h : j < n) : ixN n ((j : Nat) : Int) = some j := by
  unfold ixN
  rw [if_pos (by omega), if_pos (by omega)]
  simp
/-! ### a work is put -/
def spPut (K : PySem.W.Frag) (C : Addr) : Sp := fun vs H Q _ => ∃ (a dx : Addr) (s : SF) (r : Nat) (b wk : Addr) (lines : List Addr) (ws : List V) (ss : List Int), vs = [.ref a, .int ((r : Nat) : Int), .ref wk] ∧ H a = some (.ins C dx s.fs) ∧
  H s.queues = some (.lst (lines.map V.ref)) ∧ lines[r]? = some b ∧ H b = some (.lst ws) ∧ ws.length < 100000 ∧ H s.since = some (.lst (ss.map V.int)) ∧ r < ss.length ∧ b ≠ s.since ∧
  Q .non (upd (if ws = [] then upd H s.since (.lst ((ss.map V.int).set r (.int s.picks))) else H) b (.lst (ws ++ [.ref wk])))
theorem scPut : FnScope ["state", "rank", "work", "line"] ["state", "rank", "work"] (d_put_work).scope := ⟨rfl, rfl, rfl, by decide +kernel, rfl, by decide +kernel, by decide +kernel⟩
theorem ok_put {C f : Addr} {fd : FuncData} (F : FnDd K d_put_work f fd) (hC : ClsF K C fState) : FnOk P w K mg pB CX0 1 f fd ["state", "rank", "work"] (spPut K C) := by
  refine F.ok scPut (fun vs H Q E h => ?_) (fun cdv A outer s0 H vs Q E hr h => ?_)
  · obtain ⟨a, dx, s, r, b, wk, lines, ws, ss, rfl, _⟩ := h
    rfl
  · obtain ⟨a, dx, s, r, b, wk, lines, ws, ss, rfl, e, eq, hb, eb, hw, es, hr1, hne, k⟩ := h
    have nd := scPut.nd
    refine ⟨_, pss_cons (ps_set (i := 3) nd rfl (Or.inl rfl) (pe_ix ix_list (pe_fld (pv 0) (by rfl)) (pv 1) (fun _ _ => rfl))) (pss_cons (ps_if (pt_not (pt_truth (pv 3) (by intro _; rfl))) (pss_one (ps_asg (pe_fld (pv 0) (by rfl)) (pg_sub (pe_fld (pv 0) (by rfl)) (pv 1) set_list))) pss_nil)
      (pss_one (ps_expr (pe_bm PySem.F.plainAttrs_list PySem.F.slot_list_append PySem.F.type_list_append mt_append (pv 3) (pa_cons (pv 2) pa_nil))))), ?_⟩
    have hl : (lines.map V.ref)[r]? = some (.ref b) := by rw [List.getElem?_map, hb]; rfl
    refine ⟨_, rfl, a, C, dx, _, .ref s.queues, rfl, e, hC.c, hC.n _ (by decide), rfl, ?_⟩
    refine ⟨_, rfl, s.queues, _, _, .ref b, rfl, rfl, SqL.of eq, atI_nat hl, ?_⟩
    by_cases h0 : ws = []
    · subst h0
      rw [if_pos rfl] at k
      refine ⟨_, rfl, false, ?_, ?_⟩
      · exact .inl ⟨_, SqL.of eb, rfl⟩
      refine iteT ?_
      refine ⟨_, rfl, a, C, dx, _, .int s.picks, rfl, e, hC.c, hC.n _ (by decide), rfl, ?_⟩
      refine ⟨_, rfl, a, C, dx, _, .ref s.since, rfl, e, hC.c, hC.n _ (by decide), rfl, ?_⟩
      refine ⟨_, rfl, s.since, _, _, r, rfl, rfl, es, ixN_lt (by rw [List.length_map]; exact hr1), ?_⟩
      have eb2 : upd H s.since (.lst ((ss.map V.int).set r (.int s.picks))) b = some (.lst []) := by rw [upd_ne hne]; exact eb
      exact ⟨_, rfl, .inl ⟨rfl, _, SqL.of eb2⟩, _, rfl, b, _, _, rfl, rfl, eb2, by decide, k⟩
    · rw [if_neg h0] at k
      refine ⟨_, rfl, true, ?_, ?_⟩
      · cases ws with
        | nil => exact absurd rfl h0
        | cons x l => exact .inl ⟨_, SqL.of eb, rfl⟩
      refine iteF ?_
      exact ⟨_, rfl, .inl ⟨rfl, _, SqL.of eb⟩, _, rfl, b, _, _, rfl, rfl, eb, Nat.lt_trans hw (by decide), k⟩
end
end My

set_option Elab.async false
set_option linter.all false
set_option maxRecDepth 100000
set_option maxHeartbeats 4000000
namespace My
open PySem L2 PyProof.Rows
section
variable {P : Program} {w : World} {K : PySem.W.Frag} {mg : Str → Option Value} {pB : Heap}
/-- all stands but a -/
def Ka (a : Addr) (H H' : Hp) : Prop := ∀ c o, H c = some o → c ≠ a → H' c = some o
theorem Ka.refl {a : Addr} {H : Hp} : Ka a H H := fun _ _ e _ => e
theorem Ka.trans {a : Addr} {H H1 H2 : Hp} (x : Ka a H H1) (y : Ka a H1 H2) : Ka a H H2 := fun c o e n => y c o (x c o e n) n
theorem Ka.upd {a : Addr} {H H1 : Hp} {o : HO} (x : Ka a H H1) : Ka a H (upd H1 a o) := fun c u e n => by rw [upd_ne n]; exact x c u e n
theorem Ka.of {a : Addr} {H H1 : Hp} (s : Same H H1) : Ka a H H1 := fun c o e _ => s c o e
theorem ka_none {a p : Addr} {H H1 : Hp} (k : Ka a H H1) (n : p ≠ a) (h : H1 p = none) : H p = none := by
  cases e : H p with
  | none => rfl
  | some o => rw [k _ _ e n] at h; cases h
theorem en_snoc {F : List (Str × V)} {fs0 : List Str} {n : Nat} {f : Str} {y : V} (en : F.map (·.1) = fs0.take n) (hg : fs0[n]? = some f) : (F ++ [(f, y)]).map (·.1) = fs0.take (n + 1) := by
  rw [List.map_append, en, List.take_add_one, hg]
  rfl
theorem putF_new {f : Str} {y : V} : ∀ {F : List (Str × V)}, (F.map (·.1)).contains f = false → putF f y F = F ++ [(f, y)]
  | [], _ => rfl
  | (g, x) :: r, h => by
    rw [List.map_cons, List.contains_cons, Bool.or_eq_false_iff] at h
    have hg : ¬ g = f := fun e => by
      have h1 := h.1
      rw [e, beq_self_eq_true] at h1
      cases h1
    show (if g = f then _ else (g, x) :: putF f y r) = _
    rw [if_neg hg, putF_new h.2]
    rfl
/-- an object that is being made: its fields so far, the new things that it has -/
structure Bd (C dx a : Addr) (H : Hp) (F : List (Str × V)) (L : List (Addr × HO)) (H1 : Hp) : Prop where
  at_ : H1 a = some (.ins C dx F)
  ka : Ka a H H1
  new : ∀ q ∈ L, H q.1 = none ∧ q.1 ≠ a ∧ H1 q.1 = some q.2
  nd : (L.map (·.1)).Nodup
theorem Bd.start {C dx a : Addr} {H : Hp} (e : H a = some (.ins C dx [])) : Bd C dx a H [] [] H := ⟨e, Ka.refl, (fun _ h => nomatch h), List.nodup_nil⟩
/-- nothing new -/
theorem bd_v {C dx a : Addr} {H H1 : Hp} {F : List (Str × V)} {L : List (Addr × HO)} {tv : TE} {f : Str} {D : Ends} {σ : L2.St} {y : V} {fs0 : List Str} (n : Nat) (B : Bd C dx a H F L H1) (hs : σ[0]? = some (some (.ref a))) (hy : ∀ Q : VK, Q y H1 → tv σ H1 Q) (hc : Cls K C) (hn : NoAttr K C f) (en : F.map (·.1) = fs0.take n) (hf : (fs0.take n).contains f = false) (hl : fs0.length < 1000)
    (hg : fs0[n]? = some f) (k : ∀ H2, Bd C dx a H (F ++ [(f, y)]) L H2 → (F ++ [(f, y)]).map (·.1) = fs0.take (n + 1) → D.nx σ H2) : sFld K (tVar 0) tv f D σ H1 :=
  hy _ ⟨_, hs, a, C, dx, F, rfl, B.at_, hc, hn, by have h1 := congrArg List.length en; rw [List.length_map, List.length_take] at h1; omega, by
    rw [putF_new (by rw [en]; exact hf)]
    exact k _ ⟨upd_same, B.ka.upd, fun q hq => ⟨(B.new q hq).1, (B.new q hq).2.1, by rw [upd_ne (B.new q hq).2.1]; exact (B.new q hq).2.2⟩, B.nd⟩ (en_snoc en hg)⟩
/-- something new -/
theorem Bd.fresh {C dx a p : Addr} {H H1 : Hp} {F : List (Str × V)} {L : List (Addr × HO)} (B : Bd C dx a H F L H1) (hp : H1 p = none) : H p = none ∧ p ≠ a ∧ ∀ q ∈ L, q.1 ≠ p := by
  have ha : p ≠ a := (ne_of_none B.at_ hp).symm
  exact ⟨ka_none B.ka ha hp, ha, fun q hq => ne_of_none (B.new q hq).2.2 hp⟩
theorem Bd.put {C dx a p : Addr} {H H1 H2 : Hp} {F : List (Str × V)} {L : List (Addr × HO)} {f : Str} {o : HO} (B : Bd C dx a H F L H1) (hp : H1 p = none) (s : Ka a H1 H2) (e : H2 p = some o) : Bd C dx a H (F ++ [(f, .ref p)]) (L ++ [(p, o)]) (upd H2 a (.ins C dx (F ++ [(f, .ref p)]))) := by
  obtain ⟨h0, ha, hq⟩ := B.fresh hp
  refine ⟨upd_same, (B.ka.trans s).upd, fun q h => ?_, ?_⟩
  · rcases List.mem_append.mp h with h | h
    · have z := B.new q h
      exact ⟨z.1, z.2.1, by rw [upd_ne z.2.1]; exact s _ _ z.2.2 z.2.1⟩
    · rw [List.mem_singleton.mp h]
      exact ⟨h0, ha, by rw [upd_ne ha]; exact e⟩
  · rw [List.map_append, List.nodup_append]
    refine ⟨B.nd, by simp, fun x hx y hy => ?_⟩
    obtain ⟨q, hq', rfl⟩ := List.mem_map.mp hx
    rw [List.map_cons, List.map_nil, List.mem_singleton] at hy
    rw [hy]
    exact hq q hq'
theorem bd_n {C dx a : Addr} {H H1 : Hp} {F : List (Str × V)} {L : List (Addr × HO)} {tv : TE} {f : Str} {D : Ends} {σ : L2.St} {o : HO} {fs0 : List Str} (n : Nat) (B : Bd C dx a H F L H1) (hs : σ[0]? = some (some (.ref a))) (hy : ∀ Q : VK, (∀ p, H1 p = none → Q (.ref p) (upd H1 p o)) → tv σ H1 Q) (hc : Cls K C) (hn : NoAttr K C f) (en : F.map (·.1) = fs0.take n) (hf : (fs0.take n).contains f = false) (hl : fs0.length < 1000)
    (hg : fs0[n]? = some f) (k : ∀ p H2, Bd C dx a H (F ++ [(f, .ref p)]) (L ++ [(p, o)]) H2 → (F ++ [(f, V.ref p)]).map (·.1) = fs0.take (n + 1) → D.nx σ H2) : sFld K (tVar 0) tv f D σ H1 :=
  hy _ fun p hp => by
    have s : Same H1 (upd H1 p o) := Same.new (Same.refl _) hp
    refine ⟨_, hs, a, C, dx, F, rfl, s _ _ B.at_, hc, hn, by have h1 := congrArg List.length en; rw [List.length_map, List.length_take] at h1; omega, ?_⟩
    rw [putF_new (by rw [en]; exact hf)]
    exact k p _ (B.put hp (Ka.of s) upd_same) (en_snoc en hg)
theorem bd_vs {C dx a : Addr} {H H1 : Hp} {F : List (Str × V)} {L : List (Addr × HO)} {tv : TE} {f : Str} {b : TS} {D : Ends} {σ : L2.St} {y : V} {fs0 : List Str} (n : Nat) (B : Bd C dx a H F L H1) (hs : σ[0]? = some (some (.ref a))) (hy : ∀ Q : VK, Q y H1 → tv σ H1 Q) (hc : Cls K C) (hn : NoAttr K C f) (en : F.map (·.1) = fs0.take n) (hf : (fs0.take n).contains f = false) (hl : fs0.length < 1000)
    (hg : fs0[n]? = some f) (k : ∀ H2, Bd C dx a H (F ++ [(f, y)]) L H2 → (F ++ [(f, y)]).map (·.1) = fs0.take (n + 1) → b D σ H2) : tSeq (sFld K (tVar 0) tv f) b D σ H1 := bd_v (D := { D with nx := fun σ2 H2 => b D σ2 H2 }) n B hs hy hc hn en hf hl hg k
theorem bd_ns {C dx a : Addr} {H H1 : Hp} {F : List (Str × V)} {L : List (Addr × HO)} {tv : TE} {f : Str} {b : TS} {D : Ends} {σ : L2.St} {o : HO} {fs0 : List Str} (n : Nat) (B : Bd C dx a H F L H1) (hs : σ[0]? = some (some (.ref a))) (hy : ∀ Q : VK, (∀ p, H1 p = none → Q (.ref p) (upd H1 p o)) → tv σ H1 Q) (hc : Cls K C) (hn : NoAttr K C f) (en : F.map (·.1) = fs0.take n) (hf : (fs0.take n).contains f = false) (hl : fs0.length < 1000)
    (hg : fs0[n]? = some f) (k : ∀ p H2, Bd C dx a H (F ++ [(f, .ref p)]) (L ++ [(p, o)]) H2 → (F ++ [(f, V.ref p)]).map (·.1) = fs0.take (n + 1) → b D σ H2) : tSeq (sFld K (tVar 0) tv f) b D σ H1 := bd_n (D := { D with nx := fun σ2 H2 => b D σ2 H2 }) n B hs hy hc hn en hf hl hg k
theorem seq_nx {ta : TS} {b : TS} {D : Ends} {σ : L2.St} {H : Hp} (h : ta { D with nx := fun σ2 H2 => b D σ2 H2 } σ H) : tSeq ta b D σ H := h
/-! ### a state is made -/
abbrev nState : List Str := ["self", "setup", "book", "queues", "since", "clock", "numbers", "picks"]
theorem scState : FnScope nState nState (d_State_init).scope := ⟨rfl, rfl, rfl, by decide +kernel, rfl, by decide +kernel, by decide +kernel⟩
def spState (C : Addr) : Sp := fun vs H Q _ => ∃ (a dx q sn : Addr) (setup book ck : V) (n p : Int), vs = [.ref a, setup, book, .ref q, .ref sn, ck, .int n, .int p] ∧ H a = some (.ins C dx []) ∧
  ∀ (ev sh m t i o : Addr) (H' : Hp), Bd C dx a H (SF.mk setup book p sn q ck n ev (.ref sh) (.ref m) (.ref t) (.ref i) (.ref o)).fs [(ev, .lst []), (sh, .tup [.int 0, .str ""]), (m, .lst []), (t, .lst []), (i, .lst []), (o, .lst [])] H' → Q .non H'
theorem ok_state {C f : Addr} {fd : FuncData} (F : FnDd K d_State_init f fd) (hC : ClsF K C fState) : FnOk P w K mg pB CX0 1 f fd nState (spState C) := by
  refine F.ok scState (fun vs H Q E h => ?_) (fun cdv A outer s0 H vs Q E hr h => ?_)
  · obtain ⟨a, dx, q, sn, setup, book, ck, n, p, rfl, _⟩ := h
    rfl
  · obtain ⟨a, dx, q, sn, setup, book, ck, n, p, rfl, e, k⟩ := h
    refine ⟨_, pss_cons (ps_fld (pv 0) (pv 1) (by rfl)) (pss_cons (ps_fld (pv 0) (pv 2) (by rfl)) (pss_cons (ps_fld (pv 0) (pv 7) (by rfl)) (pss_cons (ps_fld (pv 0) (pv 4) (by rfl)) (pss_cons (ps_fld (pv 0) (pv 3) (by rfl)) (pss_cons (ps_fld (pv 0) (pv 5) (by rfl)) (pss_cons (ps_fld (pv 0) (pv 6) (by rfl))
      (pss_cons (ps_fld (pv 0) (pe_lst pa_nil) (by rfl)) (pss_cons (ps_fld (pv 0) (pe_tup (pa_cons pe_int (pa_cons pe_str pa_nil))) (by rfl)) (pss_cons (ps_fld (pv 0) (pe_lst pa_nil) (by rfl)) (pss_cons (ps_fld (pv 0) (pe_lst pa_nil) (by rfl)) (pss_cons (ps_fld (pv 0) (pe_lst pa_nil) (by rfl)) (pss_cons (ps_fld (pv 0) pe_non (by rfl)) (pss_cons (ps_fld (pv 0) (pe_lst pa_nil) (by rfl))
      (pss_cons (ps_fld (pv 0) pe_int (by rfl)) (pss_cons (ps_fld (pv 0) pe_bl (by rfl)) (pss_cons (ps_fld (pv 0) pe_non (by rfl)) (pss_one (ps_fld (pv 0) pe_bl (by rfl))))))))))))))))))), ?_⟩
    have N : ∀ f ∈ fState, NoAttr K C f := hC.n
    refine bd_vs (fs0 := fState) 0 (Bd.start e) rfl (fun Q h => ⟨_, rfl, h⟩) hC.c (N _ (by decide)) rfl (by decide +kernel) (by decide) rfl fun H1 B en => ?_
    refine bd_vs (fs0 := fState) 1 B rfl (fun Q h => ⟨_, rfl, h⟩) hC.c (N _ (by decide)) en (by decide +kernel) (by decide) rfl fun H1 B en => ?_
    refine bd_vs (fs0 := fState) 2 B rfl (fun Q h => ⟨_, rfl, h⟩) hC.c (N _ (by decide)) en (by decide +kernel) (by decide) rfl fun H1 B en => ?_
    refine bd_vs (fs0 := fState) 3 B rfl (fun Q h => ⟨_, rfl, h⟩) hC.c (N _ (by decide)) en (by decide +kernel) (by decide) rfl fun H1 B en => ?_
    refine bd_vs (fs0 := fState) 4 B rfl (fun Q h => ⟨_, rfl, h⟩) hC.c (N _ (by decide)) en (by decide +kernel) (by decide) rfl fun H1 B en => ?_
    refine bd_vs (fs0 := fState) 5 B rfl (fun Q h => ⟨_, rfl, h⟩) hC.c (N _ (by decide)) en (by decide +kernel) (by decide) rfl fun H1 B en => ?_
    refine bd_vs (fs0 := fState) 6 B rfl (fun Q h => ⟨_, rfl, h⟩) hC.c (N _ (by decide)) en (by decide +kernel) (by decide) rfl fun H1 B en => ?_
    refine bd_ns (fs0 := fState) (o := .lst []) 7 B rfl (fun Q h => ⟨Nat.zero_le _, h⟩) hC.c (N _ (by decide)) en (by decide +kernel) (by decide) rfl fun ev H1 B en => ?_
    refine bd_ns (fs0 := fState) (o := .tup [.int 0, .str ""]) 8 B rfl (fun Q h => ⟨by show 2 ≤ sizeLine; decide, h⟩) hC.c (N _ (by decide)) en (by decide +kernel) (by decide) rfl fun sh H1 B en => ?_
    refine bd_ns (fs0 := fState) (o := .lst []) 9 B rfl (fun Q h => ⟨Nat.zero_le _, h⟩) hC.c (N _ (by decide)) en (by decide +kernel) (by decide) rfl fun m H1 B en => ?_
    refine bd_ns (fs0 := fState) (o := .lst []) 10 B rfl (fun Q h => ⟨Nat.zero_le _, h⟩) hC.c (N _ (by decide)) en (by decide +kernel) (by decide) rfl fun t H1 B en => ?_
    refine bd_ns (fs0 := fState) (o := .lst []) 11 B rfl (fun Q h => ⟨Nat.zero_le _, h⟩) hC.c (N _ (by decide)) en (by decide +kernel) (by decide) rfl fun i H1 B en => ?_
    refine bd_vs (fs0 := fState) (y := .non) 12 B rfl (fun Q h => h) hC.c (N _ (by decide)) en (by decide +kernel) (by decide) rfl fun H1 B en => ?_
    refine bd_ns (fs0 := fState) (o := .lst []) 13 B rfl (fun Q h => ⟨Nat.zero_le _, h⟩) hC.c (N _ (by decide)) en (by decide +kernel) (by decide) rfl fun o H1 B en => ?_
    refine bd_vs (fs0 := fState) (y := .int 0) 14 B rfl (fun Q h => h) hC.c (N _ (by decide)) en (by decide +kernel) (by decide) rfl fun H1 B en => ?_
    refine bd_vs (fs0 := fState) (y := .bl false) 15 B rfl (fun Q h => h) hC.c (N _ (by decide)) en (by decide +kernel) (by decide) rfl fun H1 B en => ?_
    refine bd_vs (fs0 := fState) (y := .non) 16 B rfl (fun Q h => h) hC.c (N _ (by decide)) en (by decide +kernel) (by decide) rfl fun H1 B en => ?_
    refine bd_v (fs0 := fState) (y := .bl false) 17 B rfl (fun Q h => h) hC.c (N _ (by decide)) en (by decide +kernel) (by decide) rfl fun H1 B en => ?_
    simp only [List.nil_append, List.cons_append] at B
    exact k ev sh m t i o H1 B
/-! ### a book is made -/
def fBook : List Str := ["fates", "named", "takers", "taken", "untold", "gathers", "stories", "waits", "ahead", "shared", "text"]
theorem scBook : FnScope ["self"] ["self"] (d_Book_init).scope := ⟨rfl, rfl, rfl, by decide +kernel, rfl, by decide +kernel, by decide +kernel⟩
def spBook (C : Addr) : Sp := fun vs H Q _ => ∃ (a dx : Addr), vs = [.ref a] ∧ H a = some (.ins C dx []) ∧
  ∀ (p0 p1 p2 p3 p4 p5 p6 p7 p8 : Addr) (H' : Hp), Bd C dx a H [("fates", .ref p0), ("named", .ref p1), ("takers", .ref p2), ("taken", .ref p3), ("untold", .ref p4), ("gathers", .ref p5), ("stories", .ref p6), ("waits", .ref p7), ("ahead", .ref p8), ("shared", .bl false), ("text", .non)]
    [(p0, .lst []), (p1, .dK []), (p2, .dK []), (p3, .dK []), (p4, .dK []), (p5, .dK []), (p6, .dK []), (p7, .dK []), (p8, .dK [])] H' → Q .non H'
theorem ok_book {C f : Addr} {fd : FuncData} (F : FnDd K d_Book_init f fd) (hC : ClsF K C fBook) : FnOk P w K mg pB CX0 1 f fd ["self"] (spBook C) := by
  refine F.ok scBook (fun vs H Q E h => ?_) (fun cdv A outer s0 H vs Q E hr h => ?_)
  · obtain ⟨a, dx, rfl, _⟩ := h
    rfl
  · obtain ⟨a, dx, rfl, e, k⟩ := h
    have N : ∀ f ∈ fBook, NoAttr K C f := hC.n
    refine ⟨_, pss_cons (ps_fld (pv 0) (pe_lst pa_nil) (by rfl)) (pss_cons (ps_fld (pv 0) pe_dnewK (by rfl)) (pss_cons (ps_fld (pv 0) pe_dnewK (by rfl)) (pss_cons (ps_fld (pv 0) pe_dnewK (by rfl)) (pss_cons (ps_fld (pv 0) pe_dnewK (by rfl)) (pss_cons (ps_fld (pv 0) pe_dnewK (by rfl)) (pss_cons (ps_fld (pv 0) pe_dnewK (by rfl)) (pss_cons (ps_fld (pv 0) pe_dnewK (by rfl)) (pss_cons (ps_fld (pv 0) pe_dnewK (by rfl))
      (pss_cons (ps_fld (pv 0) pe_bl (by rfl)) (pss_one (ps_fld (pv 0) pe_non (by rfl)))))))))))), ?_⟩
    refine bd_ns (fs0 := fBook) (o := .lst []) 0 (Bd.start e) rfl (fun Q h => ⟨Nat.zero_le _, h⟩) hC.c (N _ (by decide)) rfl (by decide +kernel) (by decide) rfl fun p0 H1 B en => ?_
    refine bd_ns (fs0 := fBook) (o := .dK []) 1 B rfl (fun Q h => h) hC.c (N _ (by decide)) en (by decide +kernel) (by decide) rfl fun p1 H1 B en => ?_
    refine bd_ns (fs0 := fBook) (o := .dK []) 2 B rfl (fun Q h => h) hC.c (N _ (by decide)) en (by decide +kernel) (by decide) rfl fun p2 H1 B en => ?_
    refine bd_ns (fs0 := fBook) (o := .dK []) 3 B rfl (fun Q h => h) hC.c (N _ (by decide)) en (by decide +kernel) (by decide) rfl fun p3 H1 B en => ?_
    refine bd_ns (fs0 := fBook) (o := .dK []) 4 B rfl (fun Q h => h) hC.c (N _ (by decide)) en (by decide +kernel) (by decide) rfl fun p4 H1 B en => ?_
    refine bd_ns (fs0 := fBook) (o := .dK []) 5 B rfl (fun Q h => h) hC.c (N _ (by decide)) en (by decide +kernel) (by decide) rfl fun p5 H1 B en => ?_
    refine bd_ns (fs0 := fBook) (o := .dK []) 6 B rfl (fun Q h => h) hC.c (N _ (by decide)) en (by decide +kernel) (by decide) rfl fun p6 H1 B en => ?_
    refine bd_ns (fs0 := fBook) (o := .dK []) 7 B rfl (fun Q h => h) hC.c (N _ (by decide)) en (by decide +kernel) (by decide) rfl fun p7 H1 B en => ?_
    refine bd_ns (fs0 := fBook) (o := .dK []) 8 B rfl (fun Q h => h) hC.c (N _ (by decide)) en (by decide +kernel) (by decide) rfl fun p8 H1 B en => ?_
    refine bd_vs (fs0 := fBook) (y := .bl false) 9 B rfl (fun Q h => h) hC.c (N _ (by decide)) en (by decide +kernel) (by decide) rfl fun H1 B en => ?_
    refine bd_v (fs0 := fBook) (y := .non) 10 B rfl (fun Q h => h) hC.c (N _ (by decide)) en (by decide +kernel) (by decide) rfl fun H1 B en => ?_
    simp only [List.nil_append, List.cons_append] at B
    exact k p0 p1 p2 p3 p4 p5 p6 p7 p8 H1 B
end
end My

set_option Elab.async false
set_option linter.all false
set_option maxRecDepth 100000
set_option maxHeartbeats 4000000
namespace My
open PySem L2 PyProof.Rows
section
variable {P : Program} {w : World} {K : PySem.W.Frag} {mg : Str → Option Value} {pB : Heap}
/-! ### a setup is made -/
theorem paired_snoc {α β : Type} {F : α → β → Prop} {x : α} {y : β} (h : F x y) : ∀ {l : List α} {m : List β}, Paired F l m → Paired F (l ++ [x]) (m ++ [y])
  | _, _, .nil => .cons h .nil
  | _, _, .cons r t => .cons r (paired_snoc h t)
/-- the ranks that have a patience, below n -/
def pats (row : Row) : Nat → List (Int × Int)
  | 0 => []
  | n + 1 => pats row n ++ (match at' row n with | some b => [((n : Int), b)] | none => [])
def IsPat (H : Hp) (p : Addr) (q : Int × Int) : Prop := H p = some (.tup [.int q.1, .int q.2])
theorem IsPat.to {H H' : Hp} {p : Addr} {q : Int × Int} (z : IsPat H p q) (k : ∀ c xs, H c = some (.tup xs) → H' c = some (.tup xs)) : IsPat H' p q := k _ _ z
theorem pats_to {H H' : Hp} {ps : List Addr} {qs : List (Int × Int)} (z : Paired (IsPat H) ps qs) (k : ∀ c xs, H c = some (.tup xs) → H' c = some (.tup xs)) : Paired (IsPat H') ps qs := Paired.mapP z fun _ _ x => x.to k
theorem Bd.val {C dx a : Addr} {H H1 : Hp} {F : List (Str × V)} {L : List (Addr × HO)} {f : Str} {y : V} (B : Bd C dx a H F L H1) : Bd C dx a H (F ++ [(f, y)]) L (L2.upd H1 a (.ins C dx (F ++ [(f, y)]))) :=
  ⟨upd_same, B.ka.upd, fun q hq => ⟨(B.new q hq).1, (B.new q hq).2.1, by rw [upd_ne (B.new q hq).2.1]; exact (B.new q hq).2.2⟩, B.nd⟩
theorem putF_t {f : Str} {y : V} {F : List (Str × V)} (fs0 : List Str) (n : Nat) (en : F.map (·.1) = fs0.take n) (hf : (fs0.take n).contains f = false) : putF f y F = F ++ [(f, y)] := putF_new (by rw [en]; exact hf)
theorem pats_upd {H : Hp} {a C dx : Addr} {F G : List (Str × V)} {ps : List Addr} {qs : List (Int × Int)} (z : Paired (IsPat H) ps qs) (e : H a = some (.ins C dx F)) : Paired (IsPat (L2.upd H a (.ins C dx G))) ps qs := pats_to z fun c xs z => by
  rw [upd_ne (ne_of z e (by intro z; cases z))]
  exact z
def fSetup : List Str := ["patience", "flood", "deep", "calls", "patient", "text"]
abbrev nSetup : List Str := ["self", "patience", "flood", "deep", "calls", "rank", "bears"]
theorem scSetup : FnScope nSetup ["self", "patience", "flood", "deep", "calls"] (d_Setup_init).scope := ⟨rfl, rfl, rfl, by decide +kernel, rfl, by decide +kernel, by decide +kernel⟩
def setupF (pa ca D : Addr) : List (Str × V) := [("patience", .ref pa), ("flood", .int 100), ("deep", .int 8), ("calls", .ref ca), ("patient", .ref D), ("text", .non)]
def spSetup (K : PySem.W.Frag) (C : Addr) : Sp := fun vs H Q _ => ∃ (a dx pa ca : Addr) (row : Row), vs = [.ref a, .ref pa, .int 100, .int 8, .ref ca] ∧ H a = some (.ins C dx []) ∧ H pa = some (.tup (row.map vO)) ∧ row.length ≤ 100 ∧
  ∀ (D : Addr) (ps : List Addr) (H' : Hp), Bd C dx a H (setupF pa ca D) [(D, .lst (ps.map V.ref))] H' → Paired (IsPat H') ps (pats row row.length) → Q .non H'
theorem ok_setup {C f : Addr} {fd : FuncData} (F : FnDd K d_Setup_init f fd) (hC : ClsF K C fSetup) (mE : mg "enumerate" = none) : FnOk P w K mg pB CX0 1 f fd ["self", "patience", "flood", "deep", "calls"] (spSetup K C) := by
  refine F.ok scSetup (fun vs H Q E h => ?_) (fun cdv A outer s0 H vs Q E hr h => ?_)
  · obtain ⟨a, dx, pa, ca, row, rfl, _⟩ := h
    rfl
  · obtain ⟨a, dx, pa, ca, row, rfl, e, hpa, hl, k⟩ := h
    have nd := scSetup.nd
    have N : ∀ f ∈ fSetup, NoAttr K C f := hC.n
    refine ⟨_, pss_cons (ps_fld (pv 0) (pv 1) (by rfl)) (pss_cons (ps_fld (pv 0) (pv 2) (by rfl)) (pss_cons (ps_fld (pv 0) (pv 3) (by rfl)) (pss_cons (ps_fld (pv 0) (pv 4) (by rfl))
      (pss_cons (ps_fld (pv 0) (pe_lc (own := [("rank", 5), ("bears", 6)]) (g := gTup K 2 (gCons (gName 5) (gCons (gName 6) gNil))) (tt := tB (tNotN (tVar 6))) (te := tTup (tCons (tVar 5) (tCons (tVar 6) tNil))) rfl nd (pi_ex rfl mE (pv 1))
          (blkOk_by (N := nSetup) (sc := (d_Setup_init).scope) (by decide +kernel)) (fun _ _ _ _ _ => pg_tup rfl (pgs_cons (pg_name (i := 5) nd rfl (Or.inl rfl) (Or.inr rfl)) (pgs_cons (pg_name (i := 6) nd rfl (Or.inl rfl) (Or.inr rfl)) pgs_nil)))
          (fun _ _ _ _ _ => pts_one (pt_cmp (pc_notN (pv 6)))) (fun _ _ _ _ _ => pe_tup (pa_cons (pv 5) (pa_cons (pv 6) pa_nil)))) (by rfl))
      (pss_one (ps_fld (pv 0) pe_non (by rfl))))))), ?_⟩
    refine bd_vs (fs0 := fSetup) 0 (Bd.start e) rfl (fun Q h => ⟨_, rfl, h⟩) hC.c (N _ (by decide)) rfl (by decide +kernel) (by decide) rfl fun H1 B en => ?_
    refine bd_vs (fs0 := fSetup) 1 B rfl (fun Q h => ⟨_, rfl, h⟩) hC.c (N _ (by decide)) en (by decide +kernel) (by decide) rfl fun H1 B en => ?_
    refine bd_vs (fs0 := fSetup) 2 B rfl (fun Q h => ⟨_, rfl, h⟩) hC.c (N _ (by decide)) en (by decide +kernel) (by decide) rfl fun H1 B en => ?_
    refine bd_vs (fs0 := fSetup) 3 B rfl (fun Q h => ⟨_, rfl, h⟩) hC.c (N _ (by decide)) en (by decide +kernel) (by decide) rfl fun H1 B en => ?_
    refine fld_of ?_
    have hpa1 : H1 pa = some (.tup (row.map vO)) := B.ka _ _ hpa (ne_of hpa e (by intro z; cases z))
    refine ⟨_, rfl, false, pa, row.map vO, rfl, SqT.of hpa1, fun D hD => ?_⟩
    refine lc_it walk_ex (fun i H2 => ∃ ps, Same H1 H2 ∧ H2 D = some (.lst (ps.map V.ref)) ∧ ps.length ≤ i ∧ Paired (IsPat H2) ps (pats row i)) ?_ ?_ ?_ ?_
    · exact ⟨[], Same.new (Same.refl _) hD, upd_same, Nat.le_refl _, .nil⟩
    · rintro i H2 _ ⟨ps, s2, _⟩
      exact SqT.of (s2 _ _ hpa1)
    · rintro i v H2 H3 hi ⟨ps, s2, c2, l2, p2⟩ ⟨T, x, rfl, hT, rfl, hx⟩
      obtain ⟨ex, hlt⟩ := row_at hx
      subst ex
      have s3 : Same H2 (L2.upd H2 T (.tup [.int (i : Nat), vO (at' row i)])) := Same.new (Same.refl _) hT
      have ct : (L2.upd H2 T (.tup [.int (i : Nat), vO (at' row i)])) T = some (.tup [.int (i : Nat), vO (at' row i)]) := upd_same
      generalize L2.upd H2 T (.tup [.int (i : Nat), vO (at' row i)]) = H4 at s3 ct ⊢
      refine ⟨T, _, rfl, SqT.of ct, rfl, _, _, rfl, _, _, rfl, rfl, rfl, _, rfl, _, rfl, ?_⟩
      cases hp : at' row i with
      | none =>
        refine iteF ⟨ps, s2.trans s3, s3 _ _ c2, Nat.le_succ_of_le l2, ?_⟩
        rw [pats, hp]
        show Paired _ ps (pats row i ++ [])
        rw [List.append_nil]
        exact pats_to p2 fun c xs z => s3 _ _ z
      | some b =>
        refine iteT ⟨_, rfl, _, rfl, by show 2 ≤ sizeLine; decide, fun U hU => ?_⟩
        have s5 := s3.trans (Same.new (o := .tup [.int (i : Nat), vO (some b)]) (Same.refl H4) hU)
        have hDU : D ≠ U := ne_of_none (s3 _ _ c2) hU
        have cD := Same.new (o := .tup [.int (i : Nat), vO (some b)]) (Same.refl H4) hU _ _ (s3 _ _ c2)
        have cU : (L2.upd H4 U (.tup [.int (i : Nat), vO (some b)])) U = some (.tup [.int (i : Nat), vO (some b)]) := upd_same
        generalize L2.upd H4 U (.tup [.int (i : Nat), vO (some b)]) = H5 at s5 cD cU ⊢
        have b5 : Paired (IsPat H5) (ps ++ [U]) (pats row (i + 1)) := by
          rw [pats, hp]
          exact paired_snoc (F := IsPat H5) (y := ((i : Int), b)) cU (pats_to p2 fun c xs z => s5 _ _ z)
        refine ⟨_, cD, ?_, ps ++ [U], ?_, by rw [upd_same, List.map_append]; rfl, by rw [List.length_append]; show ps.length + 1 ≤ i + 1; omega, ?_⟩
        · rw [List.length_map]
          exact Nat.lt_of_le_of_lt (show ps.length ≤ 100 by rw [List.length_map] at hi; omega) (by decide)
        · intro c o e
          rw [upd_ne (ne_of_none e hD)]
          exact s5 _ _ (s2 _ _ e)
        · exact pats_to b5 fun c xs z => by
            rw [upd_ne (ne_of z cD (by intro z; cases z))]
            exact z
    · rintro H2 ⟨ps, s2, c2, _, p2⟩
      rw [List.length_map] at p2
      have B2 := B.put (f := "patient") hD (Ka.of s2) c2
      refine ⟨_, rfl, a, C, dx, _, rfl, s2 _ _ B.at_, hC.c, N _ (by decide), (show 4 < 1000 by decide), ?_⟩
      rw [putF_t fSetup 4 rfl (by decide +kernel)]
      refine ⟨_, rfl, a, C, dx, _, rfl, B2.at_, hC.c, N _ (by decide), (show 5 < 1000 by decide), ?_⟩
      rw [putF_t fSetup 5 rfl (by decide +kernel)]
      exact k D ps _ B2.val (pats_upd (pats_upd p2 (s2 _ _ B.at_)) B2.at_)
end
end My

set_option Elab.async false
set_option linter.all false
set_option maxRecDepth 100000
set_option maxHeartbeats 4000000
namespace My
open PySem L2 PyProof.Rows
/-! ### the machine of loops: things that never change -/
/-- the classes -/
structure CC where
  st : Addr
  su : Addr
  bk : Addr
  wk : Addr
  pl : Addr
  dg : Addr
  lp : Addr
/-- cells that nothing changes: tuples, works, setups -/
def Fro (c : CC) : HO → Prop
  | .tup _ => True
  | .frz _ _ => True
  | .ins C _ _ => C = c.wk ∨ C = c.su
  | _ => False
/-- what never changes stands -/
def Kept (c : CC) (H H' : Hp) : Prop := ∀ a o, H a = some o → Fro c o → H' a = some o
theorem Kept.refl {c : CC} {H : Hp} : Kept c H H := fun _ _ h _ => h
theorem Kept.trans {c : CC} {H H1 H2 : Hp} (x : Kept c H H1) (y : Kept c H1 H2) : Kept c H H2 := fun a o h f => y a o (x a o h f) f
theorem Kept.of {c : CC} {H H1 : Hp} (s : Same H H1) : Kept c H H1 := fun a o h _ => s a o h
theorem Kept.upd {c : CC} {H H1 : Hp} {p : Addr} {o u : HO} (x : Kept c H H1) (e : H1 p = some o) (n : ¬ Fro c o) : Kept c H (L2.upd H1 p u) := fun a b h f => by
  have h1 := x a b h f
  rw [upd_ne (fun z => by subst z; rw [e] at h1; exact n (Option.some.inj h1 ▸ f))]
  exact h1
theorem Kept.new {c : CC} {H H1 : Hp} {p : Addr} {u : HO} (x : Kept c H H1) (e : H1 p = none) : Kept c H (L2.upd H1 p u) := fun a b h f => by
  have h1 := x a b h f
  rw [upd_ne (fun z => by subst z; rw [e] at h1; cases h1)]
  exact h1
theorem SqT.kept {c : CC} {K : PySem.W.Frag} {H H' : Hp} {a : Addr} {xs : List V} (s : SqT K H a xs) (k : Kept c H H') : SqT K H' a xs := by
  rcases s with (h | ⟨o, h⟩) | h
  · exact .inl (.inl (k _ _ h trivial))
  · exact .inl (.inr ⟨o, k _ _ h trivial⟩)
  · exact .inr h
mutual
/-- v is the plain data d: none, bools, ints, texts and tuples of such -/
inductive Dt (K : PySem.W.Frag) (H : Hp) : V → PyData → Prop
  | non : Dt K H .non .none
  | bl (b : Bool) : Dt K H (.bl b) (.bool b)
  | int (i : Int) : Dt K H (.int i) (.int i)
  | str (x : Str) : Dt K H (.str x) (.str x)
  | tup {a : Addr} {xs : List V} {ds : List PyData} : SqT K H a xs → DtAll K H xs ds → Dt K H (.ref a) (.tuple ds)
inductive DtAll (K : PySem.W.Frag) (H : Hp) : List V → List PyData → Prop
  | nil : DtAll K H [] []
  | cons {v : V} {vs : List V} {d : PyData} {ds : List PyData} : Dt K H v d → DtAll K H vs ds → DtAll K H (v :: vs) (d :: ds)
end
mutual
theorem Dt.kept {c : CC} {K : PySem.W.Frag} {H H' : Hp} (k : Kept c H H') : ∀ {v : V} {d : PyData}, Dt K H v d → Dt K H' v d
  | _, _, .non => .non
  | _, _, .bl b => .bl b
  | _, _, .int i => .int i
  | _, _, .str x => .str x
  | _, _, .tup s h => .tup (SqT.kept s k) (DtAll.kept k h)
theorem DtAll.kept {c : CC} {K : PySem.W.Frag} {H H' : Hp} (k : Kept c H H') : ∀ {vs : List V} {ds : List PyData}, DtAll K H vs ds → DtAll K H' vs ds
  | _, _, .nil => .nil
  | _, _, .cons h t => .cons (Dt.kept k h) (DtAll.kept k t)
end
mutual
theorem Dt.dp {K : PySem.W.Frag} {H : Hp} : ∀ {v : V} {d : PyData}, Dt K H v d → Dp K H v d
  | _, _, .non => .non
  | _, _, .bl b => .bl b
  | _, _, .int i => .int i
  | _, _, .str x => .str x
  | _, _, .tup s h => .tup s (DtAll.dp h)
theorem DtAll.dp {K : PySem.W.Frag} {H : Hp} : ∀ {vs : List V} {ds : List PyData}, DtAll K H vs ds → DpAll K H vs ds
  | _, _, .nil => .nil
  | _, _, .cons h t => .cons (Dt.dp h) (DtAll.dp t)
end
theorem DtAll.len {K : PySem.W.Frag} {H : Hp} : ∀ {vs : List V} {ds : List PyData}, DtAll K H vs ds → vs.length = ds.length
  | _, _, .nil => rfl
  | _, _, .cons _ t => by rw [List.length_cons, List.length_cons, t.len]
theorem DtAll.app {K : PySem.W.Frag} {H : Hp} : ∀ {vs us : List V} {ds es : List PyData}, DtAll K H vs ds → DtAll K H us es → DtAll K H (vs ++ us) (ds ++ es)
  | _, _, _, _, .nil, t => t
  | _, _, _, _, .cons h r, t => .cons h (r.app t)
theorem DtAll.at {K : PySem.W.Frag} {H : Hp} : ∀ {vs : List V} {ds : List PyData} {i : Nat} {d : PyData}, DtAll K H vs ds → ds[i]? = some d → ∃ v, vs[i]? = some v ∧ Dt K H v d
  | _, _, _, _, .nil, e => by simp at e
  | _, _, 0, _, .cons h _, e => by simp at e; subst e; exact ⟨_, rfl, h⟩
  | _, _, i + 1, d, .cons _ t, e => by
    obtain ⟨v, h1, h2⟩ := t.at (i := i) (d := d) (by simpa using e)
    exact ⟨v, by simpa using h1, h2⟩
theorem Dt.tupI {K : PySem.W.Frag} {H : Hp} {v : V} {ds : List PyData} (h : Dt K H v (.tuple ds)) : ∃ a xs, v = .ref a ∧ SqT K H a xs ∧ DtAll K H xs ds := by
  cases h with
  | tup s t => exact ⟨_, _, rfl, s, t⟩
theorem Dt.new {K : PySem.W.Frag} {H : Hp} {p : Addr} {vs : List V} {ds : List PyData} (e : H p = some (.tup vs)) (h : DtAll K H vs ds) : Dt K H (.ref p) (.tuple ds) := .tup (SqT.of e) h
/-! ### what the machine is made of -/
structure Wk where
  num : Nat
  name : PyData
  script : List PyData
  told : PyData
  pledge : Option Nat
  around : Option (List PyData × PyData)
def oN : Option Nat → PyData
  | none => .none
  | some n => .int (n : Int)
def arD : Option (List PyData × PyData) → PyData
  | none => .none
  | some (fs, g) => .tuple [.tuple fs, g]
def wkF (n : Nat) (vn vs vt vp va : V) : List (Str × V) := [("number", .int (n : Int)), ("name", vn), ("script", vs), ("told", vt), ("pledge", vp), ("around", va), ("text", .non)]
def RWk (K : PySem.W.Frag) (c : CC) (H : Hp) (v : V) (w : Wk) : Prop := ∃ a dx vn vs vt vp va, v = .ref a ∧ H a = some (.ins c.wk dx (wkF w.num vn vs vt vp va)) ∧
  Dt K H vn w.name ∧ Dt K H vs (.tuple w.script) ∧ Dt K H vt w.told ∧ Dt K H vp (oN w.pledge) ∧ Dt K H va (arD w.around)
theorem RWk.kept {K : PySem.W.Frag} {c : CC} {H H' : Hp} {v : V} {w : Wk} (k : Kept c H H') : RWk K c H v w → RWk K c H' v w := fun ⟨a, dx, vn, vs, vt, vp, va, e, h, h1, h2, h3, h4, h5⟩ =>
  ⟨a, dx, vn, vs, vt, vp, va, e, k _ _ h (.inl rfl), h1.kept k, h2.kept k, h3.kept k, h4.kept k, h5.kept k⟩
inductive Fate where
  | opn
  | kept (d : PyData)
  | brk (d : PyData)
  | follows (n : Nat)
def Fate.d : Fate → PyData
  | .opn => .tuple [.str "open"]
  | .kept d => .tuple [.str "kept", d]
  | .brk d => .tuple [.str "broken", d]
  | .follows n => .tuple [.str "follows", .int (n : Int)]
def Fate.settled : Fate → Bool
  | .kept _ => true
  | .brk _ => true
  | _ => false
def Fate.word : Fate → Str
  | .opn => "open"
  | .kept _ => "kept"
  | .brk _ => "broken"
  | .follows _ => "follows"
def Fate.arg : Fate → PyData
  | .opn => .none
  | .kept d => d
  | .brk d => d
  | .follows n => .int (n : Int)
/-- a script or none -/
def oS : Option (List PyData) → PyData
  | none => .none
  | some ds => .tuple ds
/-- who waits for a promise -/
inductive Tk where
  | work (w : Wk)
  | thn (n p : Nat) (k b : Option (List PyData))
  | gather (n p i : Nat)
  | follow (n : Nat)
def RTk (K : PySem.W.Frag) (c : CC) (H : Hp) (v : V) : Tk → Prop
  | .work w => ∃ a vw, v = .ref a ∧ H a = some (.tup [.int (w.num : Int), .str "work", vw]) ∧ RWk K c H vw w
  | .thn n p k b => ∃ a vk vb, v = .ref a ∧ H a = some (.tup [.int (n : Int), .str "then", .int (p : Int), vk, vb]) ∧ Dt K H vk (oS k) ∧ Dt K H vb (oS b)
  | .gather n p i => ∃ a, v = .ref a ∧ H a = some (.tup [.int (n : Int), .str "gather", .int (p : Int), .int (i : Int)])
  | .follow n => ∃ a, v = .ref a ∧ H a = some (.tup [.non, .str "follow", .int (n : Int)])
theorem RTk.kept {K : PySem.W.Frag} {c : CC} {H H' : Hp} {v : V} {t : Tk} (k : Kept c H H') (h : RTk K c H v t) : RTk K c H' v t := by
  cases t with
  | work w => obtain ⟨a, vw, e, h1, h2⟩ := h; exact ⟨a, vw, e, k _ _ h1 trivial, h2.kept k⟩
  | thn n p x y => obtain ⟨a, vk, vb, e, h1, h2, h3⟩ := h; exact ⟨a, vk, vb, e, k _ _ h1 trivial, h2.kept k, h3.kept k⟩
  | gather n p i => obtain ⟨a, e, h1⟩ := h; exact ⟨a, e, k _ _ h1 trivial⟩
  | follow n => obtain ⟨a, e, h1⟩ := h; exact ⟨a, e, k _ _ h1 trivial⟩
/-- what is to be done at once -/
inductive Mi where
  | work (w : Wk) (f : Option Fate)
  | settle (n p : Nat) (f : Fate)
  | gather (n p i : Nat) (f : Fate)
def oF : Option Fate → PyData
  | none => .none
  | some f => f.d
def RMi (K : PySem.W.Frag) (c : CC) (H : Hp) (v : V) : Mi → Prop
  | .work w f => ∃ a vw vf, v = .ref a ∧ H a = some (.tup [.int (w.num : Int), .str "work", vw, vf]) ∧ RWk K c H vw w ∧ Dt K H vf (oF f)
  | .settle n p f => ∃ a vf, v = .ref a ∧ H a = some (.tup [.int (n : Int), .str "settle", .int (p : Int), vf]) ∧ Dt K H vf f.d
  | .gather n p i f => ∃ a vf, v = .ref a ∧ H a = some (.tup [.int (n : Int), .str "gather", .int (p : Int), .int (i : Int), vf]) ∧ Dt K H vf f.d
theorem RMi.kept {K : PySem.W.Frag} {c : CC} {H H' : Hp} {v : V} {t : Mi} (k : Kept c H H') (h : RMi K c H v t) : RMi K c H' v t := by
  cases t with
  | work w f => obtain ⟨a, vw, vf, e, h1, h2, h3⟩ := h; exact ⟨a, vw, vf, e, k _ _ h1 trivial, h2.kept k, h3.kept k⟩
  | settle n p f => obtain ⟨a, vf, e, h1, h2⟩ := h; exact ⟨a, vf, e, k _ _ h1 trivial, h2.kept k⟩
  | gather n p i f => obtain ⟨a, vf, e, h1, h2⟩ := h; exact ⟨a, vf, e, k _ _ h1 trivial, h2.kept k⟩
/-- a work that waits for a run's promise -/
def ROp (K : PySem.W.Frag) (c : CC) (H : Hp) (v : V) (x : Wk × Nat) : Prop := ∃ a vw, v = .ref a ∧ H a = some (.tup [vw, .int (x.2 : Int)]) ∧ RWk K c H vw x.1
theorem ROp.kept {K : PySem.W.Frag} {c : CC} {H H' : Hp} {v : V} {x : Wk × Nat} (k : Kept c H H') : ROp K c H v x → ROp K c H' v x := fun ⟨a, vw, e, h1, h2⟩ => ⟨a, vw, e, k _ _ h1 trivial, h2.kept k⟩
end My

set_option Elab.async false
set_option linter.all false
set_option maxRecDepth 100000
set_option maxHeartbeats 4000000
namespace My
open PySem L2 PyProof.Rows
/-! ### dicts as lists of pairs -/
section
variable {β : Type}
def lk (l : List (Key × β)) (k : Key) : Option β := (l.find? fun kv => decide (kv.1 = k)).map (·.2)
def pt (l : List (Key × β)) (k : Key) (v : β) : List (Key × β) := if l.any (fun kv => decide (kv.1 = k)) then l.map fun kv => if kv.1 = k then (kv.1, v) else kv else l ++ [(k, v)]
def dp (l : List (Key × β)) (k : Key) : List (Key × β) := l.filter fun kv => decide (kv.1 ≠ k)
def kvD (g : Key → β → V) (l : List (Key × β)) : List (Key × V) := l.map fun p => (p.1, g p.1 p.2)
theorem lk_nil (k : Key) : lk ([] : List (Key × β)) k = none := rfl
theorem lk_cons (p : Key × β) (l : List (Key × β)) (k : Key) : lk (p :: l) k = if p.1 = k then some p.2 else lk l k := by
  unfold lk
  by_cases h : p.1 = k
  · rw [if_pos h, List.find?_cons_of_pos (by simpa using h)]; rfl
  · rw [if_neg h, List.find?_cons_of_neg (by simpa using h)]
theorem lk_any (k : Key) : ∀ l : List (Key × β), (l.any fun kv => decide (kv.1 = k)) = (lk l k).isSome
  | [] => rfl
  | p :: r => by
    rw [List.any_cons, lk_cons, lk_any k r]
    by_cases h : p.1 = k
    · rw [if_pos h]; simp [h]
    · rw [if_neg h]; simp [h]
theorem val_mk (g : Key → β → V) (k : Key) : ∀ l : List (Key × β), valV (kvD g l) k = (lk l k).map (g k)
  | [] => rfl
  | p :: r => by
    rw [lk_cons]
    show valV ((p.1, g p.1 p.2) :: kvD g r) k = _
    by_cases h : p.1 = k
    · rw [valV_pos (p := (p.1, g p.1 p.2)) h, if_pos h]; subst h; rfl
    · rw [valV_neg (p := (p.1, g p.1 p.2)) h, if_neg h, val_mk g k r]
theorem put_mk (g : Key → β → V) (k : Key) (v : β) (l : List (Key × β)) : putK (kvD g l) k (g k v) = kvD g (pt l k v) := by
  unfold putK pt
  rw [valV_any, val_mk, lk_any]
  cases h : lk l k with
  | none => simp [kvD]
  | some x =>
    simp only [Option.map_some, Option.isSome_some, if_true]
    unfold kvD
    rw [List.map_map, List.map_map]
    apply List.map_congr_left
    intro p _
    show (if p.1 = k then (p.1, g k v) else (p.1, g p.1 p.2)) = _
    by_cases e : p.1 = k
    · simp [Function.comp, e]
    · simp [Function.comp, e]
theorem drop_mk (g : Key → β → V) (k : Key) (l : List (Key × β)) : dropK (kvD g l) k = kvD g (dp l k) := by
  unfold dropK dp kvD
  rw [List.filter_map]; rfl
theorem lk_pt (l : List (Key × β)) (k j : Key) (v : β) : lk (pt l k v) j = if j = k then some v else lk l j := by
  unfold pt
  rw [lk_any]
  cases h : lk l k with
  | none =>
    simp only [Option.isSome_none, Bool.false_eq_true, if_false]
    revert h
    induction l with
    | nil =>
      intro _
      rw [List.nil_append, lk_cons]
      by_cases e : j = k
      · rw [if_pos e.symm, if_pos e]
      · rw [if_neg (fun z => e z.symm), if_neg e]
    | cons p r ih =>
      intro h
      rw [lk_cons] at h
      by_cases hp : p.1 = k
      · rw [if_pos hp] at h; cases h
      rw [if_neg hp] at h
      rw [List.cons_append, lk_cons, lk_cons, ih h]
      by_cases e : p.1 = j
      · rw [if_pos e, if_pos e, if_neg (fun z => hp (e.trans z))]
      · rw [if_neg e, if_neg e]
  | some x =>
    simp only [Option.isSome_some, if_true]
    have h' : (lk l k).isSome = true := by rw [h]; rfl
    clear h
    induction l with
    | nil => cases h'
    | cons p r ih =>
      rw [lk_cons] at h'
      rw [List.map_cons, lk_cons, lk_cons]
      have hm : ∀ r : List (Key × β), ¬ j = k → lk (r.map fun kv => if kv.1 = k then (kv.1, v) else kv) j = lk r j := fun r e => by
        induction r with
        | nil => rfl
        | cons q r ih =>
          rw [List.map_cons, lk_cons, lk_cons, ih]
          by_cases hq : q.1 = k
          · rw [if_pos hq, if_neg (fun z => e (z.symm.trans hq)), if_neg (fun z => e (z.symm.trans hq))]
          · rw [if_neg hq]
      by_cases hp : p.1 = k
      · rw [if_pos hp]
        by_cases e : j = k
        · rw [if_pos (hp.trans e.symm), if_pos e]
        · rw [if_neg (fun z => e (z.symm.trans hp)), if_neg e, if_neg (fun z => e (z.symm.trans hp)), hm r e]
      · rw [if_neg hp] at h'
        rw [if_neg hp, ih h']
        by_cases e : p.1 = j
        · rw [if_pos e, if_pos e, if_neg (fun z => hp (e.trans z))]
        · rw [if_neg e, if_neg e]
theorem lk_dp (k j : Key) : ∀ l : List (Key × β), lk (dp l k) j = if j = k then none else lk l j
  | [] => by unfold dp; rw [List.filter_nil, lk_nil]; split <;> rfl
  | p :: r => by
    have ih := lk_dp k j r
    unfold dp at ih ⊢
    by_cases hp : p.1 = k
    · rw [List.filter_cons_of_neg (by simpa using hp), ih, lk_cons]
      by_cases e : j = k
      · rw [if_pos e, if_pos e]
      · rw [if_neg e, if_neg e, if_neg (fun z => e (z.symm.trans hp))]
    · rw [List.filter_cons_of_pos (by simpa using hp), lk_cons, lk_cons, ih]
      by_cases e : p.1 = j
      · rw [if_pos e, if_pos e, if_neg (fun z => hp (e.trans z))]
      · rw [if_neg e, if_neg e]
theorem len_pt (l : List (Key × β)) (k : Key) (v : β) : (pt l k v).length ≤ l.length + 1 := by
  unfold pt
  split <;> simp
theorem len_dp (l : List (Key × β)) (k : Key) : (dp l k).length ≤ l.length := List.length_filter_le _ _
theorem len_mk (g : Key → β → V) (l : List (Key × β)) : (kvD g l).length = l.length := List.length_map _
end
end My

set_option Elab.async false
set_option linter.all false
set_option maxRecDepth 100000
set_option maxHeartbeats 4000000
namespace My
open PySem L2 PyProof.Rows
/-! ### where the machine's own things stand -/
inductive Tag where
  | st | bk | since | queues | events | micros | timers | idles | opened | pat | calls
  | fates | named | takers | taken | untold | gathers | stories | waits | ahead
  | line (i : Nat)
  | tl (k : Key)
  | plan (n : Nat)
  deriving DecidableEq
def Tag.fixed : Tag → Bool
  | .line _ => false
  | .tl _ => false
  | .plan _ => false
  | _ => true
/-- addresses, whose an address is, what stands there -/
structure Ly where
  ad : Tag → Addr
  role : Addr → Option Tag
  ob : Tag → HO
  live : Tag → Prop
  dx : Addr
  bdx : Addr
  su : Addr
  sdx : Addr
  sh : V
  ask : V
def Ly.put (L : Ly) (t : Tag) (o : HO) : Ly := { L with ob := fun x => if x = t then o else L.ob x }
def Ly.new (L : Ly) (t : Tag) (p : Addr) (o : HO) : Ly :=
  { L with ad := fun x => if x = t then p else L.ad x, role := fun a => if a = p then some t else L.role a, ob := fun x => if x = t then o else L.ob x, live := fun x => x = t ∨ L.live x }
def Ly.kill (L : Ly) (t : Tag) : Ly := { L with live := fun x => x ≠ t ∧ L.live x }
structure CR (c : CC) (H : Hp) (L : Ly) : Prop where
  at_ : ∀ t, L.live t → H (L.ad t) = some (L.ob t)
  ro : ∀ t, L.live t → L.role (L.ad t) = some t
  kind : ∀ a, L.role a ≠ none → ∃ o, H a = some o ∧ ¬ Fro c o
theorem CR.put {c : CC} {H : Hp} {L : Ly} (h : CR c H L) {t : Tag} {o : HO} (l : L.live t) (n : ¬ Fro c o) : CR c (upd H (L.ad t) o) (L.put t o) where
  at_ := fun x lx => by
    show upd H (L.ad t) o (L.ad x) = some (if x = t then o else L.ob x)
    by_cases e : x = t
    · subst e
      rw [if_pos rfl]; exact upd_same
    · rw [if_neg e, upd_ne]
      · exact h.at_ x lx
      · intro z
        have h1 := h.ro x lx
        rw [z, h.ro t l] at h1
        exact e (Option.some.inj h1).symm
  ro := h.ro
  kind := fun a ha => by
    by_cases e : a = L.ad t
    · subst e
      exact ⟨o, upd_same, n⟩
    · rw [upd_ne e]
      exact h.kind a ha
theorem CR.new {c : CC} {H : Hp} {L : Ly} (h : CR c H L) {t : Tag} {p : Addr} {o : HO} (l : H p = none) (n : ¬ Fro c o) : CR c (upd H p o) (L.new t p o) where
  at_ := fun x lx => by
    show upd H p o (if x = t then p else L.ad x) = some (if x = t then o else L.ob x)
    by_cases e : x = t
    · subst e
      rw [if_pos rfl, if_pos rfl]; exact upd_same
    · have lx' : L.live x := lx.resolve_left e
      rw [if_neg e, if_neg e, upd_ne]
      · exact h.at_ x lx'
      · intro z
        have h1 := h.at_ x lx'
        rw [z, l] at h1
        cases h1
  ro := fun x lx => by
    show (if (if x = t then p else L.ad x) = p then some t else L.role (if x = t then p else L.ad x)) = some x
    by_cases e : x = t
    · subst e
      rw [if_pos rfl, if_pos rfl]
    · have lx' : L.live x := lx.resolve_left e
      rw [if_neg e, if_neg, h.ro x lx']
      intro z
      have h1 := h.at_ x lx'
      rw [z, l] at h1
      cases h1
  kind := fun a ha => by
    by_cases e : a = p
    · subst e
      exact ⟨o, upd_same, n⟩
    · rw [upd_ne e]
      refine h.kind a ?_
      intro z
      apply ha
      show (if a = p then some t else L.role a) = none
      rw [if_neg e]; exact z
theorem CR.kill {c : CC} {H : Hp} {L : Ly} (h : CR c H L) (t : Tag) : CR c H (L.kill t) := ⟨fun x lx => h.at_ x lx.2, fun x lx => h.ro x lx.2, h.kind⟩
/-- what others do: nothing of ours changes -/
theorem CR.frame {c : CC} {H H' : Hp} {L : Ly} (h : CR c H L) (k : ∀ a o, H a = some o → L.role a ≠ none → H' a = some o) : CR c H' L :=
  ⟨fun x lx => k _ _ (h.at_ x lx) (by rw [h.ro x lx]; exact fun z => by cases z), h.ro, fun a ha => by obtain ⟨o, e, n⟩ := h.kind a ha; exact ⟨o, k _ _ e ha, n⟩⟩
/-- one step of ours: all that isn't ours stands; what becomes ours was new -/
structure Stp (H : Hp) (L : Ly) (H' : Hp) (L' : Ly) : Prop where
  off : ∀ a o, H a = some o → L.role a = none → H' a = some o
  grow : ∀ a, L'.role a ≠ none → L.role a ≠ none ∨ H a = none
  su : L'.su = L.su
  st : L'.ad .st = L.ad .st
  bk : L'.ad .bk = L.ad .bk
  keep : ∀ a, L.role a ≠ none → L'.role a ≠ none
  mi : L'.ad .micros = L.ad .micros
theorem Stp.refl (H : Hp) (L : Ly) : Stp H L H L := ⟨fun _ _ h _ => h, fun _ h => .inl h, rfl, rfl, rfl, fun _ h => h, rfl⟩
theorem Stp.trans {H H1 H2 : Hp} {L L1 L2 : Ly} (x : Stp H L H1 L1) (y : Stp H1 L1 H2 L2) : Stp H L H2 L2 where
  off := fun a o h n => by
    refine y.off a o (x.off a o h n) ?_
    cases e : L1.role a with
    | none => rfl
    | some t =>
      rcases x.grow a (by rw [e]; exact fun z => by cases z) with z | z
      · exact absurd n z
      · rw [h] at z; cases z
  grow := fun a h => by
    rcases y.grow a h with z | z
    · exact x.grow a z
    · by_cases e : L.role a = none
      · refine .inr ?_
        cases e2 : H a with
        | none => rfl
        | some o => rw [x.off a o e2 e] at z; cases z
      · exact .inl e
  su := y.su.trans x.su
  st := y.st.trans x.st
  bk := y.bk.trans x.bk
  keep := fun a h => y.keep a (x.keep a h)
  mi := y.mi.trans x.mi
theorem Stp.kept {c : CC} {H H' : Hp} {L L' : Ly} (x : Stp H L H' L') (h : CR c H L) : Kept c H H' := fun a o e f => by
  refine x.off a o e ?_
  cases q : L.role a with
  | none => rfl
  | some t =>
    obtain ⟨o2, e2, n⟩ := h.kind a (by rw [q]; exact fun z => by cases z)
    rw [e] at e2
    exact absurd (Option.some.inj e2 ▸ f) n
theorem Stp.put {H H1 : Hp} {L L1 : Ly} {c : CC} {t : Tag} {o : HO} (x : Stp H L H1 L1) (h : CR c H1 L1) (l : L1.live t) : Stp H L (upd H1 (L1.ad t) o) (L1.put t o) := by
  refine x.trans ⟨fun a u e n => ?_, fun a ha => .inl ha, rfl, rfl, rfl, fun a ha => ha, rfl⟩
  rw [upd_ne]
  · exact e
  · intro z
    rw [z, h.ro t l] at n
    cases n
theorem Stp.new {H H1 : Hp} {L L1 : Ly} {t : Tag} {p : Addr} {o : HO} (x : Stp H L H1 L1) (l : H1 p = none) (ht : t ≠ .st) (hb : t ≠ .bk) (hm : t ≠ .micros := by intro z; cases z) : Stp H L (upd H1 p o) (L1.new t p o) := by
  refine x.trans ⟨fun a u e n => ?_, fun a ha => ?_, rfl, ?_, ?_, fun a ha => ?_, ?_⟩
  · rw [upd_ne]
    · exact e
    · intro z
      rw [z, l] at e
      cases e
  · by_cases e : a = p
    · exact .inr (e ▸ l)
    · refine .inl fun z => ha ?_
      show (if a = p then some t else L1.role a) = none
      rw [if_neg e]; exact z
  · show (if Tag.st = t then p else L1.ad .st) = _
    rw [if_neg (fun z => ht z.symm)]
  · show (if Tag.bk = t then p else L1.ad .bk) = _
    rw [if_neg (fun z => hb z.symm)]
  · show (if a = p then some t else L1.role a) ≠ none
    split
    · exact fun z => by cases z
    · exact ha
  · show (if Tag.micros = t then p else L1.ad .micros) = _
    rw [if_neg (fun z => hm z.symm)]
theorem Stp.kill {H H1 : Hp} {L L1 : Ly} {t : Tag} (x : Stp H L H1 L1) : Stp H L H1 (L1.kill t) := ⟨x.off, x.grow, x.su, x.st, x.bk, x.keep, x.mi⟩
/-- a new thing that isn't ours -/
theorem Stp.tmp {H H1 H2 : Hp} {L L1 : Ly} (x : Stp H L H1 L1) (s : Same H1 H2) : Stp H L H2 L1 := ⟨fun a o h n => s _ _ (x.off a o h n), x.grow, x.su, x.st, x.bk, x.keep, x.mi⟩
theorem CR.same {c : CC} {H H' : Hp} {L : Ly} (h : CR c H L) (s : Same H H') : CR c H' L := h.frame fun a o e _ => s a o e
/-- a change of what isn't ours and was not there at first -/
theorem Stp.oth {H H1 : Hp} {L L1 : Ly} {p : Addr} {o : HO} (x : Stp H L H1 L1) (h : H p = none) : Stp H L (upd H1 p o) L1 := ⟨fun a u e n => by rw [upd_ne (fun z => by rw [z, h] at e; cases e)]; exact x.off a u e n, x.grow, x.su, x.st, x.bk, x.keep, x.mi⟩
theorem CR.oth {c : CC} {H : Hp} {L : Ly} {p : Addr} {o : HO} (h : CR c H L) (n : L.role p = none) : CR c (upd H p o) L := h.frame fun a u e r => by rw [upd_ne (fun z => r (by rw [z]; exact n))]; exact e
theorem Stp.fresh {c : CC} {H H1 : Hp} {L L1 : Ly} {p : Addr} (x : Stp H L H1 L1) (h : CR c H1 L1) (e : H1 p = none) : H p = none ∧ L1.role p = none := by
  have r1 : L1.role p = none := by
    cases q : L1.role p with
    | none => rfl
    | some t =>
      obtain ⟨o, e2, _⟩ := h.kind p (by rw [q]; exact fun z => by cases z)
      rw [e] at e2; cases e2
  refine ⟨?_, r1⟩
  cases q : H p with
  | none => rfl
  | some o =>
    by_cases r : L.role p = none
    · rw [x.off p o q r] at e; cases e
    · exact absurd r1 (x.keep p r)
theorem Stp.not {c : CC} {H H1 : Hp} {L L1 : Ly} {p : Addr} {o : HO} (x : Stp H L H1 L1) (h : H p = some o) (n : L.role p = none) : L1.role p = none := by
  cases e : L1.role p with
  | none => rfl
  | some t =>
    rcases x.grow p (by rw [e]; exact fun z => by cases z) with z | z
    · exact absurd n z
    · rw [h] at z; cases z
end My

set_option Elab.async false
set_option linter.all false
set_option maxRecDepth 100000
set_option maxHeartbeats 4000000
namespace My
open PySem L2 PyProof.Rows
/-! ### the machine itself -/
structure Pl where
  gap : Option Nat
  rank : Nat
  num : Nat
  name : PyData
  script : List PyData
structure Mach where
  flood : Nat
  deep : Nat
  bears : List (Option Int)
  clock : Int
  numbers : Nat
  picks : Nat
  since : List Nat
  queues : List (List Wk)
  events : List PyData
  micros : List Mi
  timers : List (Int × Pl)
  idles : List (Option Int × Pl)
  soonest : Option Int
  opened : List (Wk × Nat)
  done : Nat
  flooded : Bool
  asking : Option Wk
  busy : Bool
  fates : List Fate
  named : List (Key × Nat)
  takers : List (Key × List Tk)
  taken : List (Key × Unit)
  untold : List (Key × Unit)
  gathers : List (Key × Str × List (Option Fate))
  stories : List (Key × Str)
  waits : List (Key × Nat)
  ahead : List (Key × Nat)
  /-- how often something was put somewhere: no list is longer -/
  ticks : Nat
def oIV : Option Int → V
  | none => .non
  | some i => .int i
def oNV : Option Nat → V
  | none => .non
  | some i => .int (i : Int)
def stF (L : Ly) (M : Mach) : List (Str × V) :=
  [("setup", .ref L.su), ("book", .ref (L.ad .bk)), ("picks", .int (M.picks : Int)), ("since", .ref (L.ad .since)), ("queues", .ref (L.ad .queues)), ("clock", .int M.clock), ("numbers", .int (M.numbers : Int)), ("events", .ref (L.ad .events)), ("shown", L.sh),
   ("micros", .ref (L.ad .micros)), ("timers", .ref (L.ad .timers)), ("idles", .ref (L.ad .idles)), ("soonest", oIV M.soonest), ("opened", .ref (L.ad .opened)), ("done", .int (M.done : Int)), ("flooded", .bl M.flooded), ("asking", L.ask), ("busy", .bl M.busy)]
def bkF (L : Ly) : List (Str × V) :=
  [("fates", .ref (L.ad .fates)), ("named", .ref (L.ad .named)), ("takers", .ref (L.ad .takers)), ("taken", .ref (L.ad .taken)), ("untold", .ref (L.ad .untold)), ("gathers", .ref (L.ad .gathers)), ("stories", .ref (L.ad .stories)), ("waits", .ref (L.ad .waits)), ("ahead", .ref (L.ad .ahead)), ("shared", .bl false), ("text", .non)]
def suF (L : Ly) (M : Mach) (vp : V) : List (Str × V) := [("patience", vp), ("flood", .int (M.flood : Int)), ("deep", .int (M.deep : Int)), ("calls", .ref (L.ad .calls)), ("patient", .ref (L.ad .pat)), ("text", .non)]
def plF (p : Pl) (vn vs vw : V) : List (Str × V) := [("gap", oNV p.gap), ("rank", .int (p.rank : Int)), ("number", .int (p.num : Int)), ("name", vn), ("script", vs), ("work", vw), ("text", .non)]
def RAsk (K : PySem.W.Frag) (c : CC) (H : Hp) (v : V) : Option Wk → Prop
  | none => v = .non
  | some w => RWk K c H v w
theorem RAsk.kept {K : PySem.W.Frag} {c : CC} {H H' : Hp} {v : V} {x : Option Wk} (k : Kept c H H') (h : RAsk K c H v x) : RAsk K c H' v x := by
  cases x with
  | none => exact h
  | some w => exact RWk.kept k h
def oFD : Option Fate → PyData
  | none => .none
  | some f => f.d
def RGa (K : PySem.W.Frag) (H : Hp) (kv : Key × V) (p : Key × Str × List (Option Fate)) : Prop := kv.1 = p.1 ∧ Dt K H kv.2 (.tuple [.str p.2.1, .tuple (p.2.2.map oFD)])
/-- a timer; its plan is a thing of ours -/
def RTm (L : Ly) (H : Hp) (v : V) (p : Int × Pl) : Prop := ∃ a, v = .ref a ∧ H a = some (.tup [.int p.1, .int (p.2.num : Int), .ref (L.ad (.plan p.2.num))])
def RId (L : Ly) (H : Hp) (v : V) (p : Option Int × Pl) : Prop := ∃ a, v = .ref a ∧ H a = some (.tup [oIV p.1, .int (p.2.num : Int), .ref (L.ad (.plan p.2.num))])
def Mach.plans (M : Mach) : List Pl := M.timers.map (·.2) ++ M.idles.map (·.2)
/-- a plan keeps at most the work that it made last -/
def RPl (K : PySem.W.Frag) (c : CC) (H : Hp) (L : Ly) (p : Pl) : Prop := L.live (.plan p.num) ∧ ∃ dx vn vs vw, L.ob (.plan p.num) = .ins c.pl dx (plF p vn vs vw) ∧ Dt K H vn p.name ∧ Dt K H vs (.tuple p.script) ∧
  (vw = .non ∨ ∃ told, RWk K c H vw ⟨p.num, p.name, p.script, told, none, none⟩)
def patsM (bears : List (Option Int)) : List PyData := (bears.zipIdx.filterMap fun x => x.1.map fun b => .tuple [.int (x.2 : Int), .int b])
def vI (_ : Key) (n : Nat) : V := .int (n : Int)
def vT (_ : Key) (_ : Unit) : V := .bl true
def vS (_ : Key) (x : Str) : V := .str x
def vL (L : Ly) (k : Key) (_ : List Tk) : V := .ref (L.ad (.tl k))
structure AR (K : PySem.W.Frag) (c : CC) (H : Hp) (L : Ly) (M : Mach) : Prop where
  fx : ∀ t, t.fixed = true → L.live t
  st : L.ob .st = .ins c.st L.dx (stF L M)
  bk : L.ob .bk = .ins c.bk L.bdx (bkF L)
  su : ∃ vp, H L.su = some (.ins c.su L.sdx (suF L M vp)) ∧ Dt K H vp (.tuple (M.bears.map fun x => match x with | none => .none | some b => .int b))
  pat : ∃ vs, L.ob .pat = .lst vs ∧ DtAll K H vs (patsM M.bears)
  calls : L.ob .calls = .dK []
  ask : RAsk K c H L.ask M.asking
  since : L.ob .since = .lst (M.since.map fun n : Nat => V.int (n : Int))
  queues : L.ob .queues = .lst ((List.range M.queues.length).map fun i => V.ref (L.ad (.line i)))
  lines : ∀ (i : Nat) (ws : List Wk), M.queues[i]? = some ws → L.live (.line i) ∧ ∃ vs, L.ob (.line i) = .lst vs ∧ Paired (RWk K c H) vs ws ∧ ws.length ≤ M.ticks
  events : ∃ vs, L.ob .events = .lst vs ∧ DtAll K H vs M.events
  micros : ∃ vs, L.ob .micros = .lst vs ∧ Paired (RMi K c H) vs M.micros
  timers : ∃ vs, L.ob .timers = .lst vs ∧ Paired (RTm L H) vs M.timers
  idles : ∃ vs, L.ob .idles = .lst vs ∧ Paired (RId L H) vs M.idles
  plans : ∀ p ∈ M.plans, RPl K c H L p
  opened : ∃ vs, L.ob .opened = .lst vs ∧ Paired (ROp K c H) vs M.opened
  fates : ∃ vs, L.ob .fates = .lst vs ∧ DtAll K H vs (M.fates.map Fate.d)
  named : L.ob .named = .dK (kvD vI M.named)
  takers : L.ob .takers = .dK (kvD (vL L) M.takers)
  tls : ∀ (k : Key) (ts : List Tk), lk M.takers k = some ts → L.live (.tl k) ∧ ∃ vs, L.ob (.tl k) = .lst vs ∧ Paired (RTk K c H) vs ts ∧ ts.length ≤ M.ticks
  taken : L.ob .taken = .dK (kvD vT M.taken)
  untold : L.ob .untold = .dK (kvD vT M.untold)
  gathers : ∃ kvs, L.ob .gathers = .dK kvs ∧ Paired (RGa K H) kvs M.gathers
  stories : L.ob .stories = .dK (kvD vS M.stories)
  waits : L.ob .waits = .dK (kvD vI M.waits)
  ahead : L.ob .ahead = .dK (kvD vI M.ahead)
  bd : M.queues.length ≤ 10 ∧ M.since.length = M.queues.length ∧ M.events.length ≤ M.ticks ∧ M.micros.length ≤ M.ticks ∧ M.timers.length ≤ M.ticks ∧ M.idles.length ≤ M.ticks ∧ M.opened.length ≤ M.ticks ∧ M.fates.length ≤ M.ticks
  bd2 : M.named.length ≤ M.ticks ∧ M.takers.length ≤ M.ticks ∧ M.taken.length ≤ M.ticks ∧ M.untold.length ≤ M.ticks ∧ M.gathers.length ≤ M.ticks ∧ M.stories.length ≤ M.ticks ∧ M.waits.length ≤ M.ticks ∧ M.ahead.length ≤ M.ticks
section
variable {K : PySem.W.Frag} {c : CC} {H : Hp} {L : Ly} {M : Mach}
theorem RGa.kept {H' : Hp} (k : Kept c H H') {kv : Key × V} {p : Key × Str × List (Option Fate)} (h : RGa K H kv p) : RGa K H' kv p := ⟨h.1, h.2.kept k⟩
theorem RTm.kept {H' : Hp} (k : Kept c H H') {v : V} {p : Int × Pl} : RTm L H v p → RTm L H' v p := fun ⟨a, e, h⟩ => ⟨a, e, k _ _ h trivial⟩
theorem RId.kept {H' : Hp} (k : Kept c H H') {v : V} {p : Option Int × Pl} : RId L H v p → RId L H' v p := fun ⟨a, e, h⟩ => ⟨a, e, k _ _ h trivial⟩
theorem RPl.kept {H' : Hp} (k : Kept c H H') {p : Pl} : RPl K c H L p → RPl K c H' L p := fun ⟨l, dx, vn, vs, vw, e, h1, h2, h3⟩ => ⟨l, dx, vn, vs, vw, e, h1.kept k, h2.kept k, h3.imp id fun ⟨t, z⟩ => ⟨t, z.kept k⟩⟩
theorem AR.kept {H' : Hp} (h : AR K c H L M) (k : Kept c H H') : AR K c H' L M := { h with
  su := by obtain ⟨vp, e, d⟩ := h.su; exact ⟨vp, k _ _ e (.inr rfl), d.kept k⟩
  pat := by obtain ⟨vs, e, d⟩ := h.pat; exact ⟨vs, e, d.kept k⟩
  ask := h.ask.kept k
  lines := fun i ws e => by obtain ⟨l, vs, e1, p, q⟩ := h.lines i ws e; exact ⟨l, vs, e1, Paired.mapP p fun _ _ z => z.kept k, q⟩
  events := by obtain ⟨vs, e, d⟩ := h.events; exact ⟨vs, e, d.kept k⟩
  micros := by obtain ⟨vs, e, d⟩ := h.micros; exact ⟨vs, e, Paired.mapP d fun _ _ z => z.kept k⟩
  timers := by obtain ⟨vs, e, d⟩ := h.timers; exact ⟨vs, e, Paired.mapP d fun _ _ z => z.kept k⟩
  idles := by obtain ⟨vs, e, d⟩ := h.idles; exact ⟨vs, e, Paired.mapP d fun _ _ z => z.kept k⟩
  plans := fun p hp => (h.plans p hp).kept k
  opened := by obtain ⟨vs, e, d⟩ := h.opened; exact ⟨vs, e, Paired.mapP d fun _ _ z => z.kept k⟩
  fates := by obtain ⟨vs, e, d⟩ := h.fates; exact ⟨vs, e, d.kept k⟩
  tls := fun i ws e => by obtain ⟨l, vs, e1, p, q⟩ := h.tls i ws e; exact ⟨l, vs, e1, Paired.mapP p fun _ _ z => z.kept k, q⟩
  gathers := by obtain ⟨vs, e, d⟩ := h.gathers; exact ⟨vs, e, Paired.mapP d fun _ _ z => z.kept k⟩ }
end
/-- the machine M stands in H, at L -/
structure MR (K : PySem.W.Frag) (c : CC) (H : Hp) (L : Ly) (M : Mach) : Prop where
  cr : CR c H L
  ar : AR K c H L M
end My

set_option Elab.async false
set_option linter.all false
set_option maxRecDepth 100000
set_option maxHeartbeats 4000000
namespace My
open PySem L2 PyProof.Rows
theorem Paired.snoc {α β : Type} {F : α → β → Prop} {x : α} {y : β} (h : F x y) : ∀ {l : List α} {m : List β}, Paired F l m → Paired F (l ++ [x]) (m ++ [y])
  | _, _, .nil => .cons h .nil
  | _, _, .cons r t => .cons r (t.snoc h)
section
variable {K : PySem.W.Frag} {c : CC} {H : Hp} {L : Ly} {M : Mach}
theorem MR.same {H' : Hp} (h : MR K c H L M) (s : Same H H') : MR K c H' L M := ⟨h.cr.same s, h.ar.kept (Kept.of s)⟩
theorem AR.tick (h : AR K c H L M) (n : Nat) : AR K c H L { M with ticks := M.ticks + n } := { h with
  lines := fun i ws e => by obtain ⟨l, vs, e1, p, q⟩ := h.lines i ws e; exact ⟨l, vs, e1, p, Nat.le_add_right_of_le q⟩
  tls := fun i ws e => by obtain ⟨l, vs, e1, p, q⟩ := h.tls i ws e; exact ⟨l, vs, e1, p, Nat.le_add_right_of_le q⟩
  bd := by have := h.bd; simp only; omega
  bd2 := by have := h.bd2; simp only; omega }
theorem MR.tick (h : MR K c H L M) (n : Nat) : MR K c H L { M with ticks := M.ticks + n } := ⟨h.cr, h.ar.tick n⟩
theorem MR.set (h : MR K c H L M) {t : Tag} {o o' : HO} {M' : Mach} (l : L.live t) (e : L.ob t = o') (n' : ¬ Fro c o') (n : ¬ Fro c o) (a : AR K c (upd H (L.ad t) o) L M → AR K c (upd H (L.ad t) o) (L.put t o) M') : MR K c (upd H (L.ad t) o) (L.put t o) M' :=
  ⟨h.cr.put l n, a (h.ar.kept (Kept.refl.upd (h.cr.at_ t l) (by rw [e]; exact n')))⟩
theorem nf_l {xs : List V} : ¬ Fro c (.lst xs) := fun z => z
theorem nf_d {xs : List (Key × V)} : ¬ Fro c (.dK xs) := fun z => z
/-- the classes are not the same -/
structure CN (c : CC) : Prop where
  s1 : c.st ≠ c.wk
  s2 : c.st ≠ c.su
  b1 : c.bk ≠ c.wk
  b2 : c.bk ≠ c.su
  p1 : c.pl ≠ c.wk
  p2 : c.pl ≠ c.su
theorem nf_st (n : CN c) {dx : Addr} {fs : List (Str × V)} : ¬ Fro c (.ins c.st dx fs) := fun z => z.elim n.s1 n.s2
theorem nf_bk (n : CN c) {dx : Addr} {fs : List (Str × V)} : ¬ Fro c (.ins c.bk dx fs) := fun z => z.elim n.b1 n.b2
theorem nf_pl (n : CN c) {dx : Addr} {fs : List (Str × V)} : ¬ Fro c (.ins c.pl dx fs) := fun z => z.elim n.p1 n.p2
theorem MR.namedS (h : MR K c H L M) (n : Nat) (l' : List (Key × Nat)) (hb : l'.length ≤ M.ticks + n) : MR K c (upd H (L.ad .named) (.dK (kvD vI l'))) (L.put .named (.dK (kvD vI l'))) { M with named := l', ticks := M.ticks + n } :=
  h.set (h.ar.fx _ rfl) h.ar.named nf_d nf_d fun a => { a.tick n with
    named := rfl
    bd2 := by have := h.ar.bd2; simp only; omega }
theorem MR.waitsS (h : MR K c H L M) (n : Nat) (l' : List (Key × Nat)) (hb : l'.length ≤ M.ticks + n) : MR K c (upd H (L.ad .waits) (.dK (kvD vI l'))) (L.put .waits (.dK (kvD vI l'))) { M with waits := l', ticks := M.ticks + n } :=
  h.set (h.ar.fx _ rfl) h.ar.waits nf_d nf_d fun a => { a.tick n with
    waits := rfl
    bd2 := by have := h.ar.bd2; simp only; omega }
theorem MR.aheadS (h : MR K c H L M) (n : Nat) (l' : List (Key × Nat)) (hb : l'.length ≤ M.ticks + n) : MR K c (upd H (L.ad .ahead) (.dK (kvD vI l'))) (L.put .ahead (.dK (kvD vI l'))) { M with ahead := l', ticks := M.ticks + n } :=
  h.set (h.ar.fx _ rfl) h.ar.ahead nf_d nf_d fun a => { a.tick n with
    ahead := rfl
    bd2 := by have := h.ar.bd2; simp only; omega }
theorem MR.takenS (h : MR K c H L M) (n : Nat) (l' : List (Key × Unit)) (hb : l'.length ≤ M.ticks + n) : MR K c (upd H (L.ad .taken) (.dK (kvD vT l'))) (L.put .taken (.dK (kvD vT l'))) { M with taken := l', ticks := M.ticks + n } :=
  h.set (h.ar.fx _ rfl) h.ar.taken nf_d nf_d fun a => { a.tick n with
    taken := rfl
    bd2 := by have := h.ar.bd2; simp only; omega }
theorem MR.untoldS (h : MR K c H L M) (n : Nat) (l' : List (Key × Unit)) (hb : l'.length ≤ M.ticks + n) : MR K c (upd H (L.ad .untold) (.dK (kvD vT l'))) (L.put .untold (.dK (kvD vT l'))) { M with untold := l', ticks := M.ticks + n } :=
  h.set (h.ar.fx _ rfl) h.ar.untold nf_d nf_d fun a => { a.tick n with
    untold := rfl
    bd2 := by have := h.ar.bd2; simp only; omega }
theorem MR.storiesS (h : MR K c H L M) (n : Nat) (l' : List (Key × Str)) (hb : l'.length ≤ M.ticks + n) : MR K c (upd H (L.ad .stories) (.dK (kvD vS l'))) (L.put .stories (.dK (kvD vS l'))) { M with stories := l', ticks := M.ticks + n } :=
  h.set (h.ar.fx _ rfl) h.ar.stories nf_d nf_d fun a => { a.tick n with
    stories := rfl
    bd2 := by have := h.ar.bd2; simp only; omega }
theorem MR.microsS (h : MR K c H L M) (n : Nat) (vs : List V) (x : List Mi) (hd : Paired (RMi K c H) vs x) (hb : x.length ≤ M.ticks + n) : MR K c (upd H (L.ad .micros) (.lst vs)) (L.put .micros (.lst vs)) { M with micros := x, ticks := M.ticks + n } := by
  obtain ⟨us, e, _⟩ := h.ar.micros
  have k : Kept c H (upd H (L.ad .micros) (.lst vs)) := Kept.refl.upd (h.cr.at_ .micros (h.ar.fx _ rfl)) (by rw [e]; exact nf_l)
  exact h.set (h.ar.fx _ rfl) e nf_l nf_l fun a => { a.tick n with
    micros := ⟨_, rfl, Paired.mapP hd fun _ _ z => z.kept k⟩
    bd := by have := h.ar.bd; simp only; omega }
theorem MR.openedS (h : MR K c H L M) (n : Nat) (vs : List V) (x : List (Wk × Nat)) (hd : Paired (ROp K c H) vs x) (hb : x.length ≤ M.ticks + n) : MR K c (upd H (L.ad .opened) (.lst vs)) (L.put .opened (.lst vs)) { M with opened := x, ticks := M.ticks + n } := by
  obtain ⟨us, e, _⟩ := h.ar.opened
  have k : Kept c H (upd H (L.ad .opened) (.lst vs)) := Kept.refl.upd (h.cr.at_ .opened (h.ar.fx _ rfl)) (by rw [e]; exact nf_l)
  exact h.set (h.ar.fx _ rfl) e nf_l nf_l fun a => { a.tick n with
    opened := ⟨_, rfl, Paired.mapP hd fun _ _ z => z.kept k⟩
    bd := by have := h.ar.bd; simp only; omega }
theorem MR.eventsS (h : MR K c H L M) (n : Nat) (vs : List V) (x : List PyData) (hd : DtAll K H vs x) (hb : x.length ≤ M.ticks + n) : MR K c (upd H (L.ad .events) (.lst vs)) (L.put .events (.lst vs)) { M with events := x, ticks := M.ticks + n } := by
  obtain ⟨us, e, _⟩ := h.ar.events
  have k : Kept c H (upd H (L.ad .events) (.lst vs)) := Kept.refl.upd (h.cr.at_ .events (h.ar.fx _ rfl)) (by rw [e]; exact nf_l)
  exact h.set (h.ar.fx _ rfl) e nf_l nf_l fun a => { a.tick n with
    events := ⟨_, rfl, hd.kept k⟩
    bd := by have := h.ar.bd; simp only; omega }
theorem MR.fatesS (h : MR K c H L M) (n : Nat) (vs : List V) (x : List Fate) (hd : DtAll K H vs (x.map Fate.d)) (hb : x.length ≤ M.ticks + n) : MR K c (upd H (L.ad .fates) (.lst vs)) (L.put .fates (.lst vs)) { M with fates := x, ticks := M.ticks + n } := by
  obtain ⟨us, e, _⟩ := h.ar.fates
  have k : Kept c H (upd H (L.ad .fates) (.lst vs)) := Kept.refl.upd (h.cr.at_ .fates (h.ar.fx _ rfl)) (by rw [e]; exact nf_l)
  exact h.set (h.ar.fx _ rfl) e nf_l nf_l fun a => { a.tick n with
    fates := ⟨_, rfl, hd.kept k⟩
    bd := by have := h.ar.bd; simp only; omega }
theorem MR.gathersS (h : MR K c H L M) (n : Nat) (vs : List (Key × V)) (x : List (Key × Str × List (Option Fate))) (hd : Paired (RGa K H) vs x) (hb : x.length ≤ M.ticks + n) : MR K c (upd H (L.ad .gathers) (.dK vs)) (L.put .gathers (.dK vs)) { M with gathers := x, ticks := M.ticks + n } := by
  obtain ⟨us, e, _⟩ := h.ar.gathers
  have k : Kept c H (upd H (L.ad .gathers) (.dK vs)) := Kept.refl.upd (h.cr.at_ .gathers (h.ar.fx _ rfl)) (by rw [e]; exact nf_d)
  exact h.set (h.ar.fx _ rfl) e nf_d nf_d fun a => { a.tick n with
    gathers := ⟨_, rfl, Paired.mapP hd fun _ _ z => z.kept k⟩
    bd2 := by have := h.ar.bd2; simp only; omega }
theorem MR.sinceS (h : MR K c H L M) (x : List Nat) (hl : x.length = M.since.length) : MR K c (upd H (L.ad .since) (.lst (x.map fun n : Nat => V.int (n : Int)))) (L.put .since (.lst (x.map fun n : Nat => V.int (n : Int)))) { M with since := x } :=
  h.set (h.ar.fx _ rfl) h.ar.since nf_l nf_l fun a => { a with
    since := rfl
    bd := by have := h.ar.bd; simp only; omega }
/-- a line of works -/
theorem MR.lineS (h : MR K c H L M) (n i : Nat) (vs : List V) (x : List Wk) (hi : i < M.queues.length) (hd : Paired (RWk K c H) vs x) (hb : x.length ≤ M.ticks + n) : MR K c (upd H (L.ad (.line i)) (.lst vs)) (L.put (.line i) (.lst vs)) { M with queues := M.queues.set i x, ticks := M.ticks + n } := by
  obtain ⟨l, us, e, _⟩ := h.ar.lines i _ (List.getElem?_eq_getElem hi)
  have k : Kept c H (upd H (L.ad (.line i)) (.lst vs)) := Kept.refl.upd (h.cr.at_ (.line i) l) (by rw [e]; exact nf_l)
  exact h.set l e nf_l nf_l fun a => { a.tick n with
    queues := by show L.ob .queues = .lst ((List.range (M.queues.set i x).length).map fun i => V.ref (L.ad (.line i))); rw [List.length_set]; exact a.queues
    lines := fun j ws ej => by
      by_cases q : j = i
      · subst q
        have e2 : (M.queues.set j x)[j]? = some ws := ej
        rw [List.getElem?_set_self hi] at e2
        cases Option.some.inj e2
        exact ⟨l, vs, (if_pos rfl : (if Tag.line j = Tag.line j then _ else _) = _), Paired.mapP hd fun _ _ z => z.kept k, hb⟩
      · have e2 : (M.queues.set i x)[j]? = some ws := ej
        rw [List.getElem?_set_ne (fun z => q z.symm)] at e2
        obtain ⟨lj, ys, e3, p3, q3⟩ := (a.tick n).lines j ws e2
        exact ⟨lj, ys, (if_neg (fun z => q (Tag.line.inj z)) : (if Tag.line j = Tag.line i then _ else L.ob (.line j)) = _).trans e3, p3, q3⟩
    bd := by have := h.ar.bd; simp only [List.length_set]; omega }
/-- those who wait for a promise -/
theorem MR.tlS (h : MR K c H L M) (n : Nat) (k : Key) (vs : List V) (ts x : List Tk) (hk : lk M.takers k = some ts) (hd : Paired (RTk K c H) vs x) (hb : x.length ≤ M.ticks + n) : MR K c (upd H (L.ad (.tl k)) (.lst vs)) (L.put (.tl k) (.lst vs)) { M with takers := pt M.takers k x, ticks := M.ticks + n } := by
  obtain ⟨l, us, e, _⟩ := h.ar.tls k _ hk
  have kp : Kept c H (upd H (L.ad (.tl k)) (.lst vs)) := Kept.refl.upd (h.cr.at_ (.tl k) l) (by rw [e]; exact nf_l)
  have hle : (pt M.takers k x).length = M.takers.length := by
    unfold pt
    rw [lk_any, hk]
    exact List.length_map _
  have hmk : kvD (vL L) (pt M.takers k x) = kvD (vL L) M.takers := by
    unfold pt
    rw [lk_any, hk]
    show kvD (vL L) (List.map _ _) = _
    unfold kvD
    rw [List.map_map]
    apply List.map_congr_left
    intro p _
    have q : (if p.1 = k then (p.1, x) else p).1 = p.1 := by split <;> rfl
    show ((if p.1 = k then (p.1, x) else p).1, V.ref (L.ad (.tl (if p.1 = k then (p.1, x) else p).1))) = _
    rw [q]
    rfl
  exact h.set l e nf_l nf_l fun a => { a.tick n with
    takers := a.takers.trans (congrArg HO.dK hmk.symm)
    tls := fun j ws ej => by
      have e2 : lk (pt M.takers k x) j = some ws := ej
      rw [lk_pt] at e2
      by_cases q : j = k
      · subst q
        rw [if_pos rfl] at e2
        cases Option.some.inj e2
        exact ⟨l, vs, (if_pos rfl : (if Tag.tl j = Tag.tl j then _ else _) = _), Paired.mapP hd fun _ _ z => z.kept kp, hb⟩
      · rw [if_neg q] at e2
        obtain ⟨lj, ys, e3, p3, q3⟩ := (a.tick n).tls j ws e2
        exact ⟨lj, ys, (if_neg (fun z => q (Tag.tl.inj z)) : (if Tag.tl j = Tag.tl k then _ else L.ob (.tl j)) = _).trans e3, p3, q3⟩
    bd2 := by have := h.ar.bd2; simp only; rw [hle]; omega }
/-- a state's plain fields -/
theorem MR.stS (h : MR K c H L M) (nC : CN c) (picks numbers done : Nat) (clock : Int) (flooded busy : Bool) : MR K c (upd H (L.ad .st) (.ins c.st L.dx (stF L { M with picks := picks, numbers := numbers, done := done, clock := clock, flooded := flooded, busy := busy })))
    (L.put .st (.ins c.st L.dx (stF L { M with picks := picks, numbers := numbers, done := done, clock := clock, flooded := flooded, busy := busy }))) { M with picks := picks, numbers := numbers, done := done, clock := clock, flooded := flooded, busy := busy } :=
  h.set (h.ar.fx _ rfl) h.ar.st (nf_st nC) (nf_st nC) fun a => { a with
    st := rfl }
end
end My

set_option Elab.async false
set_option linter.all false
set_option maxRecDepth 100000
set_option maxHeartbeats 4000000
namespace My
open PySem L2 PyProof.Rows
/-- what is known of the classes and of the constants -/
def fPlan : List Str := ["gap", "rank", "number", "name", "script", "work", "text"]
structure MC (K : PySem.W.Frag) (c : CC) : Prop where
  st : ClsF K c.st fState
  bk : ClsF K c.bk fBook
  wk : ClsF K c.wk fWork
  su : ClsF K c.su fSetup
  cn : CN c
structure Cal (K : PySem.W.Frag) (mg : Str → Option Value) (x : Str) (f : Addr) (fd : FuncData) (ps : List Str) : Prop where
  m : mg x = some (.ref f)
  k : PySem.W.keepIn K (.ref f) = true
  b : Binds K fd ps []
/-- a class by its name, its maker -/
structure Mkc (K : PySem.W.Frag) (mg : Str → Option Value) (x : Str) (C f : Addr) (fd : FuncData) (ps : List Str) : Prop where
  m : mg x = some (.ref C)
  k : Mk K C f
  b : Binds K fd ps []
/-- a tuple of the module -/
def CTup (K : PySem.W.Frag) (a : Addr) (xs : List V) : Prop := ∃ (o : Obj) (its : Array Value) (n : Nat), K.lookup a = some o ∧ o.cls = .type "tuple" ∧ o.data = .seq its n ∧ its.size ≤ sizeLine ∧ Vals xs its.toList
theorem CTup.at {K : PySem.W.Frag} {a : Addr} {xs : List V} (h : CTup K a xs) (H : Hp) : SqT K H a xs := .inr h
theorem upd_self {H : Hp} {a : Addr} {o : HO} (e : H a = some o) : L2.upd H a o = H := by
  funext b
  by_cases h : b = a
  · rw [h, upd_same, e]
  · rw [upd_ne h]
section
variable {P : Program} {w : World} {K : PySem.W.Frag} {mg : Str → Option Value} {pB : Heap} {c : CC}
theorem sizeLine_eq : sizeLine = 16777216 := by decide
theorem MR.atS {H : Hp} {L : Ly} {M : Mach} (h : MR K c H L M) : H (L.ad .st) = some (.ins c.st L.dx (stF L M)) := by rw [h.cr.at_ _ (h.ar.fx _ rfl), h.ar.st]
theorem MR.atB {H : Hp} {L : Ly} {M : Mach} (h : MR K c H L M) : H (L.ad .bk) = some (.ins c.bk L.bdx (bkF L)) := by rw [h.cr.at_ _ (h.ar.fx _ rfl), h.ar.bk]
/-! ### the book is one's own -/
theorem scOwn : FnScope ["state", "book"] ["state"] (d_own_book).scope := ⟨rfl, rfl, rfl, by decide +kernel, rfl, by decide +kernel, by decide +kernel⟩
def spOwn (K : PySem.W.Frag) (c : CC) : Sp := fun vs H Q _ => ∃ (L : Ly) (M : Mach), vs = [.ref (L.ad .st)] ∧ MR K c H L M ∧ Q (.ref (L.ad .bk)) H
theorem ok_own {f : Addr} {fd : FuncData} (F : FnDd K d_own_book f fd) (X : MC K c) : FnOk P w K mg pB CX0 1 f fd ["state"] (spOwn K c) := by
  refine F.ok scOwn (fun vs H Q E h => ?_) (fun cdv A outer s0 H vs Q E hr h => ?_)
  · obtain ⟨L, M, rfl, _⟩ := h
    rfl
  · obtain ⟨L, M, rfl, m, k⟩ := h
    have nd := scOwn.nd
    refine ⟨_, pss_cons (ps_if (pt_val (pe_fld (pe_fld (pv 0) (by rfl)) (by rfl))) (pss_one ps_never) pss_nil)
      (pss_cons (ps_set (i := 1) nd rfl (Or.inl rfl) (pe_fld (pv 0) (by rfl)))
      (pss_cons (ps_fld (pv 1) pe_non (by rfl)) (pss_one (ps_ret (pv 1))))), ?_⟩
    refine ⟨_, rfl, L.ad .st, c.st, L.dx, _, .ref (L.ad .bk), rfl, m.atS, X.st.c, X.st.n _ (by decide), rfl, L.ad .bk, c.bk, L.bdx, _, .bl false, rfl, m.atB, X.bk.c, X.bk.n _ (by decide), rfl, _, rfl, iteF (nxt_of ?_)⟩
    refine asg_n ⟨_, rfl, L.ad .st, c.st, L.dx, _, .ref (L.ad .bk), rfl, m.atS, X.st.c, X.st.n _ (by decide), rfl, ?_⟩
    refine fld_of ⟨_, rfl, L.ad .bk, c.bk, L.bdx, _, rfl, m.atB, X.bk.c, X.bk.n _ (by decide), (show 11 < 1000 by decide), ?_⟩
    have e : L2.upd H (L.ad .bk) (.ins c.bk L.bdx (putF "text" .non (bkF L))) = H := upd_self m.atB
    rw [e]
    exact ⟨_, rfl, k⟩
theorem gdrop_of {te : TE} {b : TS} {D : Ends} {σ : L2.St} {H : Hp} (h : te σ H fun _ H1 => b D σ H1) : tSeq (tDrop te) b D σ H := h
theorem dput_of {td ty tv : TE} {b : TS} {D : Ends} {σ : L2.St} {H : Hp} (h : tv σ H fun v H1 => td σ H1 fun x H2 => ty σ H2 fun y H3 => ∃ a H4, x = .ref a ∧ DPut H3 a y v H4 ∧ b D σ H4) : tSeq (sDPut td ty tv) b D σ H := h
/-! ### a promise is made -/
def makeP (M : Mach) (x : Str) : Mach := { M with fates := M.fates ++ [.opn], named := pt M.named (.inr x) M.fates.length, ticks := M.ticks + 1 }
theorem scMkp : FnScope ["book", "name", "number"] ["book", "name"] (d_make_promise).scope := ⟨rfl, rfl, rfl, by decide +kernel, rfl, by decide +kernel, by decide +kernel⟩
def spMkp (K : PySem.W.Frag) (c : CC) : Sp := fun vs H Q _ => ∃ (L : Ly) (M : Mach) (x : Str), vs = [.ref (L.ad .bk), .str x] ∧ MR K c H L M ∧ M.ticks < 1000000 ∧
  ∀ H' L', MR K c H' L' (makeP M x) → Stp H L H' L' → Q (.int (M.fates.length : Int)) H'
theorem ok_mkp {f oA : Addr} {fd : FuncData} (F : FnDd K d_make_promise f fd) (X : MC K c) (mO : mg "OPEN" = some (.ref oA)) (kO : CTup K oA [.str "open"]) (mLen : mg "len" = none) : FnOk P w K mg pB CX0 1 f fd ["book", "name"] (spMkp K c) := by
  refine F.ok scMkp (fun vs H Q E h => ?_) (fun cdv A outer s0 H vs Q E hr h => ?_)
  · obtain ⟨L, M, x, rfl, _⟩ := h
    rfl
  · obtain ⟨L, M, x, rfl, m, ht, k⟩ := h
    have nd := scMkp.nd
    have pO : ∀ {X : Cx} {p : Pos}, Gl X "OPEN" → X.mg "OPEN" = some (.ref oA) → PE X (.Name "OPEN" p) (tC (.ref oA)) := fun hg hm => pe_glob hg hm (show RelV (.ref oA) _ from rfl)
    refine ⟨_, pss_cons (ps_set (i := 2) nd rfl (Or.inl rfl) (pe_callB call_len_seq (by rfl) mLen PySem.boot_len (pa_cons (pe_fld (pv 0) (by rfl)) pa_nil)))
      (pss_cons (ps_expr (pe_bm PySem.F.plainAttrs_list PySem.F.slot_list_append PySem.F.type_list_append mt_append (pe_fld (pv 0) (by rfl)) (pa_cons (pO (by rfl) mO) pa_nil)))
      (pss_cons (ps_dput (hu_of hr) (pe_fld (pv 0) (by rfl)) (pv 1) (pv 2) (by rfl))
      (pss_one (ps_ret (pv 2))))), ?_⟩
    obtain ⟨fs, ef, df⟩ := m.ar.fates
    have hfa : H (L.ad .fates) = some (.lst fs) := by rw [m.cr.at_ _ (m.ar.fx _ rfl), ef]
    have hlen : fs.length = M.fates.length := by rw [df.len, List.length_map]
    have b1 := m.ar.bd
    have b2 := m.ar.bd2
    refine asg_n ⟨_, rfl, L.ad .bk, c.bk, L.bdx, _, .ref (L.ad .fates), rfl, m.atB, X.bk.c, X.bk.n _ (by decide), rfl, L.ad .fates, _, rfl, .inl (SqL.of hfa), ?_⟩
    rw [hlen]
    refine gdrop_of ⟨_, rfl, L.ad .bk, c.bk, L.bdx, _, .ref (L.ad .fates), rfl, m.atB, X.bk.c, X.bk.n _ (by decide), rfl, .inl ⟨rfl, _, SqL.of hfa⟩, L.ad .fates, _, _, rfl, rfl, hfa, by rw [hlen, sizeLine_eq]; omega, ?_⟩
    have m1 := m.fatesS 1 (fs ++ [.ref oA]) (M.fates ++ [.opn]) (by rw [List.map_append]; exact df.app (.cons (.tup (kO.at H) (.cons (.str _) .nil)) .nil)) (by rw [List.length_append]; show _ + 1 ≤ _; omega)
    have hna := m1.cr.at_ _ (m1.ar.fx .named rfl)
    rw [m1.ar.named] at hna
    refine dput_of ⟨_, rfl, _, rfl, L.ad .bk, c.bk, L.bdx, _, .ref (L.ad .named), rfl, m1.atB, X.bk.c, X.bk.n _ (by decide), rfl, _, rfl, L.ad .named, _, rfl, DPut.k (k := .inr x) hna (by rw [len_mk, sizeLine_eq]; show M.named.length < _; omega), ?_⟩
    have e : putK (kvD vI M.named) (.inr x) (V.int ((M.fates.length : Nat) : Int)) = kvD vI (pt M.named (.inr x) M.fates.length) := put_mk vI (.inr x) M.fates.length M.named
    have m2 := m1.namedS 0 (pt M.named (.inr x) M.fates.length) (by have := len_pt M.named (.inr x) M.fates.length; show _ ≤ M.ticks + 1 + 0; omega)
    refine ⟨_, rfl, ?_⟩
    have s2 := ((Stp.refl H L).put m.cr (m.ar.fx .fates rfl) (o := .lst (fs ++ [.ref oA]))).put m1.cr (m1.ar.fx .named rfl) (o := .dK (kvD vI (pt M.named (.inr x) M.fates.length)))
    show Q _ (L2.upd _ (L.ad .named) (.dK (putK (kvD vI M.named) _ _)))
    rw [e]
    exact k _ _ m2 s2
end
end My

set_option Elab.async false
set_option linter.all false
set_option maxRecDepth 100000
set_option maxHeartbeats 4000000
namespace My
open PySem L2 PyProof.Rows
def tellM (M : Mach) (ds : List PyData) : Mach := { M with events := M.events ++ [.tuple (.int M.clock :: ds)], ticks := M.ticks + 1 }
theorem Fate.dI {K : PySem.W.Frag} {H : Hp} {v : V} {f : Fate} (h : Dt K H v f.d) : ∃ a xs, v = .ref a ∧ SqT K H a xs ∧ xs[0]? = some (.str f.word) := by
  cases f <;> (obtain ⟨a, xs, e, s, t⟩ := Dt.tupI h; cases t with | cons h1 _ => cases h1; exact ⟨a, _, e, s, rfl⟩)
theorem dp_none {β : Type} {k : Key} : ∀ {l : List (Key × β)}, lk l k = none → dp l k = l
  | [], _ => rfl
  | p :: r, h => by
    rw [lk_cons] at h
    by_cases hp : p.1 = k
    · rw [if_pos hp] at h; cases h
    · rw [if_neg hp] at h
      have ih := dp_none h
      unfold dp at ih ⊢
      rw [List.filter_cons_of_pos (by simpa using hp), ih]
section
variable {P : Program} {w : World} {K : PySem.W.Frag} {mg : Str → Option Value} {pB : Heap} {c : CC}
theorem MR.tell {H : Hp} {L : Ly} {M : Mach} (m : MR K c H L M) {evs : List V} (e : L.ob .events = .lst evs) {p : Addr} (hp : H p = none) {vs : List V} {ds : List PyData} (hd : DtAll K H vs ds) :
    MR K c (L2.upd (L2.upd H p (.tup (.int M.clock :: vs))) (L.ad .events) (.lst (evs ++ [.ref p]))) (L.put .events (.lst (evs ++ [.ref p]))) (tellM M ds) ∧
    Stp H L (L2.upd (L2.upd H p (.tup (.int M.clock :: vs))) (L.ad .events) (.lst (evs ++ [.ref p]))) (L.put .events (.lst (evs ++ [.ref p]))) ∧ L2.upd H p (.tup (.int M.clock :: vs)) (L.ad .events) = some (.lst evs) := by
  have s : Same H (L2.upd H p (.tup (.int M.clock :: vs))) := Same.new (Same.refl _) hp
  have m1 := m.same s
  obtain ⟨ev2, e2, d2⟩ := m1.ar.events
  rw [e] at e2
  cases HO.lst.inj e2
  refine ⟨m1.eventsS 1 _ _ (d2.app (.cons (Dt.new upd_same (.cons (.int _) (hd.kept (Kept.of (c := c) s)))) .nil)) (by have := m.ar.bd; rw [List.length_append]; show _ + 1 ≤ _; omega), ((Stp.refl H L).tmp s).put m1.cr (m1.ar.fx _ rfl), ?_⟩
  rw [m1.cr.at_ _ (m1.ar.fx _ rfl), e]
theorem MR.atL {H : Hp} {L : Ly} {M : Mach} (m : MR K c H L M) {t : Tag} {o : HO} (ht : t.fixed = true) (e : L.ob t = o) : H (L.ad t) = some o := by rw [m.cr.at_ _ (m.ar.fx _ ht), e]
theorem gmid_of {ts b : TS} {D : Ends} {σ : L2.St} {H : Hp} (M : L2.St → Hp → Prop) (h1 : ∀ N : L2.St → Hp → Prop, (∀ σ' H', M σ' H' → N σ' H') → ts { D with nx := N } σ H) (h2 : ∀ σ' H', M σ' H' → b D σ' H') : tSeq ts b D σ H := h1 (b D) h2
theorem gasg {te : TE} {g : TG} {b : TS} {D : Ends} {σ : L2.St} {H : Hp} (h : te σ H fun x H1 => g x σ H1 fun σ2 H2 => b D σ2 H2) : tSeq (tAsg te g) b D σ H := h
/-- a while whose test is told with every continuation -/
theorem gwhile {c : TT} {tb : TS} {D : Ends} {σ : L2.St} {H : Hp} (W : Nat → L2.St → Hp → Prop) (R : Nat → L2.St → Hp → Bool → Hp → Prop) {m0 : Nat} (h0 : W m0 σ H)
    (hc : ∀ m σ H, W m σ H → ∀ C : Bool → Hp → Prop, (∀ b H1, R m σ H b H1 → C b H1) → c σ H C)
    (ht : ∀ m σ H H1, W m σ H → R m σ H true H1 → tb { D with nx := fun σ' H' => ∃ m', m' < m ∧ W m' σ' H', ct := fun σ' H' => ∃ m', m' < m ∧ W m' σ' H', bk := D.nx } σ H1)
    (hf : ∀ m σ H H1, W m σ H → R m σ H false H1 → D.nx σ H1) : tWhile c tb D σ H := by
  refine ⟨W, ⟨m0, h0⟩, fun m σ H p => hc m σ H p _ fun b H1 q => ?_⟩
  cases b with
  | true => exact ⟨_, fun σ' H' z => z, ht m σ H H1 p q⟩
  | false => exact hf m σ H H1 p q
theorem paired_app {α β : Type} {F : α → β → Prop} : ∀ {l l' : List α} {m m' : List β}, Paired F l m → Paired F l' m' → Paired F (l ++ l') (m ++ m')
  | _, _, _, _, .nil, h => h
  | _, _, _, _, .cons r t, h => .cons r (paired_app t h)
theorem ife {b : Bool} {A B : Prop} (h : b = true → A) (h' : b = false → B) : if b = true then A else B := by cases b <;> simp_all
/-- a field of the state, of the book -/
theorem rdS {H : Hp} {L : Ly} {M : Mach} {σ : L2.St} {Q : VK} {i : Nat} {f : Str} {v : V} (X : MC K c) (m : MR K c H L M) (hσ : σ[i]? = some (some (.ref (L.ad .st)))) (hf : f ∈ fState) (hl : (stF L M).lookup f = some v) (k : Q v H) : tFld K (tVar i) f σ H Q :=
  ⟨_, hσ, L.ad .st, c.st, L.dx, _, v, rfl, m.atS, X.st.c, X.st.n _ hf, hl, k⟩
theorem rdB {H : Hp} {L : Ly} {M : Mach} {σ : L2.St} {Q : VK} {i : Nat} {f : Str} {v : V} (X : MC K c) (m : MR K c H L M) (hσ : σ[i]? = some (some (.ref (L.ad .bk)))) (hf : f ∈ fBook) (hl : (bkF L).lookup f = some v) (k : Q v H) : tFld K (tVar i) f σ H Q :=
  ⟨_, hσ, L.ad .bk, c.bk, L.bdx, _, v, rfl, m.atB, X.bk.c, X.bk.n _ hf, hl, k⟩
/-! ### a promise's breaking is taken note of -/
def lateM (M : Mach) (n : Nat) (f : Fate) : Mach := if f.word = "broken" ∧ lk M.untold (.inl (n : Int)) = none then tellM M [.str "late", .int (n : Int)] else M
def takeM (M : Mach) (n : Nat) (f : Fate) : Mach :=
  if f.word = "kept" ∨ lk M.taken (.inl (n : Int)) ≠ none then M else
  let M1 := lateM M n f
  { M1 with taken := pt M1.taken (.inl (n : Int)) (), untold := dp M1.untold (.inl (n : Int)), ticks := M1.ticks + 1 }
theorem scTake : FnScope ["state", "book", "number", "word"] ["state", "book", "number"] (d_take).scope := ⟨rfl, rfl, rfl, by decide +kernel, rfl, by decide +kernel, by decide +kernel⟩
def spTake (K : PySem.W.Frag) (c : CC) : Sp := fun vs H Q _ => ∃ (L : Ly) (M : Mach) (n : Nat) (f : Fate), vs = [.ref (L.ad .st), .ref (L.ad .bk), .int (n : Int)] ∧ MR K c H L M ∧ M.fates[n]? = some f ∧ M.ticks < 1000000 ∧
  ∀ H' L', MR K c H' L' (takeM M n f) → Stp H L H' L' → Q .non H'
theorem ok_take {fa : Addr} {fd : FuncData} (F : FnDd K d_take fa fd) (X : MC K c) : FnOk P w K mg pB CX0 1 fa fd ["state", "book", "number"] (spTake K c) := by
  refine F.ok scTake (fun vs H Q E h => ?_) (fun cdv A outer s0 H vs Q E hr h => ?_)
  · obtain ⟨L, M, n, f, rfl, _⟩ := h
    rfl
  · obtain ⟨L, M, n, f, rfl, m, hn, ht, k⟩ := h
    have nd := scTake.nd
    refine ⟨_, pss_cons (ps_set (i := 3) nd rfl (Or.inl rfl) (pe_ix ix_tup (pe_ix ix_list (pe_fld (pv 1) (by rfl)) (pv 2) (fun _ _ => rfl)) pe_int (fun _ _ => rfl)))
      (pss_cons (ps_if (PW.pt (pw_or (pt_cmpR op_eq (pv 3) pe_str (nomark _)) (pw_or1 (pt_cmp (pc_din (hu_of hr) (pv 2) (pe_fld (pv 1) (by rfl))))))) (pss_one ps_retN) pss_nil)
      (pss_cons (ps_if (PW.pt (pw_and (pt_cmpR op_eq (pv 3) pe_str (nomark _)) (pw_and1 (pt_cmp (pc_dnotin (hu_of hr) (pv 2) (pe_fld (pv 1) (by rfl)))))))
        (pss_one (ps_expr (pe_bm PySem.F.plainAttrs_list PySem.F.slot_list_append PySem.F.type_list_append mt_append (pe_fld (pv 0) (by rfl)) (pa_cons (pe_tup (pa_cons (pe_fld (pv 0) (by rfl)) (pa_cons pe_str (pa_cons (pv 2) pa_nil)))) pa_nil)))) pss_nil)
      (pss_cons (ps_dput (hu_of hr) (pe_fld (pv 1) (by rfl)) (pv 2) pe_bl (by rfl))
      (pss_one (ps_expr (pe_dpop2 (pe_fld (pv 1) (by rfl)) (pv 2) pe_non ⟨rfl, rfl, rfl, rfl⟩)))))), ?_⟩
    obtain ⟨fs, ef, df⟩ := m.ar.fates
    have hfa := m.atL rfl ef
    obtain ⟨v, hv, dv⟩ := df.at (i := n) (d := f.d) (by rw [List.getElem?_map, hn]; rfl)
    obtain ⟨a, xs, rfl, st, hw⟩ := Fate.dI dv
    have htk := m.atL rfl m.ar.taken
    have hun := m.atL rfl m.ar.untold
    have gt := DGet.k (k := .inl (n : Int)) htk
    have gu := DGet.k (k := .inl (n : Int)) hun
    rw [val_mk] at gt gu
    refine asg_n ⟨_, rfl, L.ad .bk, c.bk, L.bdx, _, .ref (L.ad .fates), rfl, m.atB, X.bk.c, X.bk.n _ (by decide), rfl, _, rfl, _, _, _, _, rfl, rfl, SqL.of hfa, atI_nat hv, _, _, _, _, rfl, rfl, st, atI_nat (j := 0) hw, ?_⟩
    refine ⟨_, rfl, rfl, _, rfl, ?_⟩
    have hw2 : ∀ z : Str, decide (V.str f.word = V.str z) = decide (f.word = z) := fun z => by by_cases q : f.word = z <;> simp [q]
    rw [hw2]
    refine ife (fun e => ?_) (fun e => ?_)
    · have hk : f.word = "kept" := of_decide_eq_true e
      refine iteT ?_
      exact k H L (by rw [show takeM M n f = M from if_pos (.inl hk)]; exact m) (Stp.refl H L)
    have hk : ¬ f.word = "kept" := of_decide_eq_false e
    refine ⟨_, rfl, _, rfl, L.ad .bk, c.bk, L.bdx, _, .ref (L.ad .taken), rfl, m.atB, X.bk.c, X.bk.n _ (by decide), rfl, L.ad .taken, _, rfl, gt, _, rfl, ?_⟩
    cases hq : lk M.taken (.inl (n : Int)) with
    | some u =>
      refine iteT ?_
      exact k H L (by rw [show takeM M n f = M from if_pos (.inr (by rw [hq]; exact fun z => by cases z))]; exact m) (Stp.refl H L)
    | none =>
    refine iteF (nxt_of ?_)
    have eT : takeM M n f = { lateM M n f with taken := pt (lateM M n f).taken (.inl (n : Int)) (), untold := dp (lateM M n f).untold (.inl (n : Int)), ticks := (lateM M n f).ticks + 1 } := if_neg (fun z => z.elim hk fun z => z hq)
    refine gmid_of (fun σ' H' => (σ'[0]? = some (some (.ref (L.ad .st))) ∧ σ'[1]? = some (some (.ref (L.ad .bk))) ∧ σ'[2]? = some (some (.int (n : Int)))) ∧ ∃ L', MR K c H' L' (lateM M n f) ∧ Stp H L H' L') (fun N hN => ?_) (fun σ' H' hm => ?_)
    · have hno : ∀ z : ¬ (f.word = "broken" ∧ lk M.untold (.inl (n : Int)) = none), MR K c H L (lateM M n f) := fun z => by rw [show lateM M n f = M from if_neg z]; exact m
      refine ⟨_, rfl, rfl, _, rfl, ?_⟩
      rw [hw2]
      refine ife (fun e => ?_) (fun e => ?_)
      · refine ⟨_, rfl, _, rfl, L.ad .bk, c.bk, L.bdx, _, .ref (L.ad .untold), rfl, m.atB, X.bk.c, X.bk.n _ (by decide), rfl, L.ad .untold, _, rfl, gu, _, rfl, ?_⟩
        cases hu : lk M.untold (.inl (n : Int)) with
        | some u =>
          refine iteF ?_
          exact hN _ _ ⟨⟨rfl, rfl, rfl⟩, L, hno (fun z => by rw [hu] at z; cases z.2), Stp.refl H L⟩
        | none =>
          refine iteT ?_
          obtain ⟨evs, ee, de⟩ := m.ar.events
          have hev := m.atL rfl ee
          refine ⟨_, rfl, L.ad .st, c.st, L.dx, _, .ref (L.ad .events), rfl, m.atS, X.st.c, X.st.n _ (by decide), rfl, .inl ⟨rfl, _, SqL.of hev⟩, _, rfl, L.ad .st, c.st, L.dx, _, .int M.clock, rfl, m.atS, X.st.c, X.st.n _ (by decide), rfl, _, rfl, by show 3 ≤ sizeLine; decide, fun p hp => ?_⟩
          obtain ⟨m1, s1, h1⟩ := m.tell ee hp (vs := [.str "late", .int (n : Int)]) (ds := [.str "late", .int (n : Int)]) (.cons (.str _) (.cons (.int _) .nil))
          refine ⟨L.ad .events, _, _, rfl, rfl, h1, ?_, hN _ _ ⟨⟨rfl, rfl, rfl⟩, _, by rw [show lateM M n f = _ from if_pos ⟨of_decide_eq_true e, hu⟩]; exact m1, s1⟩⟩
          have := m.ar.bd; rw [de.len, sizeLine_eq]; omega
      · refine iteF ?_
        exact hN _ _ ⟨⟨rfl, rfl, rfl⟩, L, hno (fun z => (of_decide_eq_false e) z.1), Stp.refl H L⟩
    · obtain ⟨⟨h0, h1, h2⟩, L', m', s'⟩ := hm
      rw [← s'.bk] at h1
      have hta := m'.atL rfl m'.ar.taken
      have b := m'.ar.bd2
      refine dput_of ?_
      have hlt : (lateM M n f).ticks ≤ M.ticks + 1 := by unfold lateM; split <;> simp [tellM]
      refine ⟨_, h1, L'.ad .bk, c.bk, L'.bdx, _, .ref (L'.ad .taken), rfl, m'.atB, X.bk.c, X.bk.n _ (by decide), rfl, _, h2, L'.ad .taken, _, rfl, DPut.k (k := .inl (n : Int)) hta (by rw [len_mk, sizeLine_eq]; omega), ?_⟩
      have e1 : putK (kvD vT (lateM M n f).taken) (.inl (n : Int)) (.bl true) = kvD vT (pt (lateM M n f).taken (.inl (n : Int)) ()) := put_mk vT (.inl (n : Int)) () _
      rw [e1]
      have m1 := m'.takenS 1 (pt (lateM M n f).taken (.inl (n : Int)) ()) (by have := len_pt (lateM M n f).taken (.inl (n : Int)) (); omega)
      have s1 := s'.put m'.cr (m'.ar.fx .taken rfl) (o := .dK (kvD vT (pt (lateM M n f).taken (.inl (n : Int)) ())))
      have hu1 := m1.atL rfl m1.ar.untold
      rw [eT] at k
      refine ⟨_, h1, L'.ad .bk, c.bk, L'.bdx, _, .ref (L'.ad .untold), rfl, m1.atB, X.bk.c, X.bk.n _ (by decide), rfl, L'.ad .untold, rfl, .inl ⟨_, .inl hu1⟩, _, h2, _, .inl (n : Int), hu1, rfl, fun v hv => ?_, fun hv => ?_⟩
      · have e2 : dropK (kvD vT (lateM M n f).untold) (.inl (n : Int)) = kvD vT (dp (lateM M n f).untold (.inl (n : Int))) := drop_mk vT _ _
        rw [e2]
        exact k _ _ (m1.untoldS 0 _ (by have := len_dp (lateM M n f).untold (.inl (n : Int)); show _ ≤ _ + 1 + 0; omega)) (s1.put m1.cr (m1.ar.fx .untold rfl))
      · have hv : valV (kvD vT (lateM M n f).untold) (.inl (n : Int)) = none := hv
        rw [val_mk, Option.map_eq_none_iff] at hv
        rw [dp_none hv] at k
        exact k _ _ m1 s1
end
end My

set_option Elab.async false
set_option linter.all false
set_option maxRecDepth 100000
set_option maxHeartbeats 4000000
namespace My
open PySem L2 PyProof.Rows
theorem paired_rev {α β : Type} {F : α → β → Prop} : ∀ {xs : List α} {ys : List β}, Paired F xs ys → Paired F xs.reverse ys.reverse
  | _, _, .nil => .nil
  | _, _, .cons r t => by rw [List.reverse_cons, List.reverse_cons]; exact Paired.snoc r (paired_rev t)
theorem Fate.two {K : PySem.W.Frag} {H : Hp} {v : V} {f : Fate} (hs : f.settled = true) (h : Dt K H v f.d) : ∃ a u, v = .ref a ∧ SqT K H a [.str f.word, u] ∧ Dt K H u f.arg := by
  cases f with
  | opn => cases hs
  | follows n => cases hs
  | kept d =>
    obtain ⟨a, xs, e, s, t⟩ := Dt.tupI h
    cases t with | cons h1 t => cases h1; cases t with | cons h2 t => cases t; exact ⟨a, _, e, s, h2⟩
  | brk d =>
    obtain ⟨a, xs, e, s, t⟩ := Dt.tupI h
    cases t with | cons h1 t => cases h1; cases t with | cons h2 t => cases t; exact ⟨a, _, e, s, h2⟩
theorem DtAll.set {K : PySem.W.Frag} {H : Hp} {v : V} {d : PyData} (h : Dt K H v d) : ∀ {vs : List V} {ds : List PyData} (i : Nat), DtAll K H vs ds → DtAll K H (vs.set i v) (ds.set i d)
  | _, _, _, .nil => .nil
  | _, _, 0, .cons _ t => .cons h t
  | _, _, i + 1, .cons r t => .cons r (DtAll.set h i t)
/-- no dict of dicts: keys of a paired dict -/
theorem valV_paired {β : Type} {R : Key × V → Key × β → Prop} (hR : ∀ x y, R x y → x.1 = y.1) {k : Key} : ∀ {kvs : List (Key × V)} {l : List (Key × β)}, Paired R kvs l → Paired R (dropK kvs k) (dp l k) ∧ (valV kvs k = none ↔ lk l k = none)
  | _, _, .nil => ⟨.nil, ⟨fun _ => rfl, fun _ => rfl⟩⟩
  | (a, x) :: kvs, (b, y) :: l, .cons r t => by
    obtain ⟨h1, h2⟩ := valV_paired hR (k := k) t
    have e : a = b := hR _ _ r
    subst e
    rw [lk_cons]
    unfold dropK dp at h1 ⊢
    by_cases hk : a = k
    · rw [valV_pos (p := (a, x)) hk, if_pos hk, List.filter_cons_of_neg (by simpa using hk), List.filter_cons_of_neg (by simpa using hk)]
      exact ⟨h1, by simp⟩
    · rw [valV_neg (p := (a, x)) hk, if_neg hk, List.filter_cons_of_pos (by simpa using hk), List.filter_cons_of_pos (by simpa using hk)]
      exact ⟨.cons r h1, h2⟩
section
variable {P : Program} {w : World} {K : PySem.W.Frag} {mg : Str → Option Value} {pB : Heap} {c : CC}
theorem MR.takersD {H : Hp} {L : Ly} {M : Mach} (h : MR K c H L M) (k : Key) : MR K c (L2.upd H (L.ad .takers) (.dK (kvD (vL L) (dp M.takers k)))) ((L.put .takers (.dK (kvD (vL L) (dp M.takers k)))).kill (.tl k)) { M with takers := dp M.takers k } := by
  have h1 := h.cr.put (h.ar.fx .takers rfl) (nf_d (xs := kvD (vL L) (dp M.takers k)))
  have kp : Kept c H (L2.upd H (L.ad .takers) (.dK (kvD (vL L) (dp M.takers k)))) := Kept.refl.upd (h.cr.at_ .takers (h.ar.fx _ rfl)) (by rw [h.ar.takers]; exact nf_d)
  have a := h.ar.kept kp
  refine ⟨h1.kill _, { a with
    fx := fun t ht => ⟨(fun z => by rw [z] at ht; cases ht), a.fx t ht⟩
    lines := fun i ws e => by obtain ⟨l, r⟩ := a.lines i ws e; exact ⟨⟨(fun z => by cases z), l⟩, r⟩
    plans := fun p hp => by obtain ⟨l, r⟩ := a.plans p hp; exact ⟨⟨(fun z => by cases z), l⟩, r⟩
    takers := rfl
    tls := fun j ts e => by
      have e2 : lk (dp M.takers k) j = some ts := e
      rw [lk_dp] at e2
      by_cases q : j = k
      · rw [if_pos q] at e2; cases e2
      · rw [if_neg q] at e2
        obtain ⟨l, r⟩ := a.tls j ts e2
        exact ⟨⟨fun z => q (Tag.tl.inj z), l⟩, r⟩
    bd2 := by have := a.bd2; have := len_dp M.takers k; simp only; omega }⟩
/-! ### who waits for a promise that is settled -/
def behind1 (M : Mach) (n : Nat) (f : Fate) : Mach := tellM { M with fates := M.fates.set n f } [.str f.word, .int (n : Int), f.arg]
def behind2 (M : Mach) (n : Nat) (f : Fate) : Mach :=
  let M1 := behind1 M n f
  if f.word = "kept" then { M1 with taken := dp M1.taken (.inl (n : Int)) } else
  if lk M1.taken (.inl (n : Int)) = none then { M1 with untold := pt M1.untold (.inl (n : Int)) (), ticks := M1.ticks + 1 } else M1
def behindM (M : Mach) (n : Nat) (f : Fate) : Mach :=
  let M2 := behind2 M n f
  { M2 with gathers := dp M2.gathers (.inl (n : Int)), takers := dp M2.takers (.inl (n : Int)) }
def behindT (M : Mach) (n : Nat) : List Tk := ((lk M.takers (.inl (n : Int))).getD []).reverse
theorem scBeh : FnScope ["state", "book", "number", "fate", "word", "worth"] ["state", "book", "number", "fate"] (d_takers_behind).scope := ⟨rfl, rfl, rfl, by decide +kernel, rfl, by decide +kernel, by decide +kernel⟩
def spBeh (K : PySem.W.Frag) (c : CC) : Sp := fun vs H Q _ => ∃ (L : Ly) (M : Mach) (n : Nat) (f : Fate) (vf : V), vs = [.ref (L.ad .st), .ref (L.ad .bk), .int (n : Int), vf] ∧ MR K c H L M ∧ n < M.fates.length ∧ f.settled = true ∧ Dt K H vf f.d ∧ M.ticks < 1000000 ∧
  ∀ H' L' p us, MR K c H' L' (behindM M n f) → Stp H L H' L' → H p = none → L'.role p = none → H' p = some (.lst us) → Paired (RTk K c H') us (behindT M n) → Q (.ref p) H'
theorem ok_beh {fa : Addr} {fd : FuncData} (F : FnDd K d_takers_behind fa fd) (X : MC K c) : FnOk P w K mg pB CX0 1 fa fd ["state", "book", "number", "fate"] (spBeh K c) := by
  refine F.ok scBeh (fun vs H Q E h => ?_) (fun cdv A outer s0 H vs Q E hr h => ?_)
  · obtain ⟨L, M, n, f, vf, rfl, _⟩ := h
    rfl
  · obtain ⟨L, M, n, f, vf, rfl, m, hn, hs, hf, ht, k⟩ := h
    have nd := scBeh.nd
    refine ⟨_, pss_cons (ps_asg (pv 3) (pg_tup (by rfl) (pgs_cons (pg_name (i := 4) nd rfl (Or.inl rfl) (Or.inr rfl)) (pgs_cons (pg_name (i := 5) nd rfl (Or.inl rfl) (Or.inr rfl)) pgs_nil))))
      (pss_cons (ps_asg (pv 3) (pg_sub (pe_fld (pv 1) (by rfl)) (pv 2) set_list))
      (pss_cons (ps_expr (pe_bm PySem.F.plainAttrs_list PySem.F.slot_list_append PySem.F.type_list_append mt_append (pe_fld (pv 0) (by rfl)) (pa_cons (pe_tup (pa_cons (pe_fld (pv 0) (by rfl)) (pa_cons (pv 4) (pa_cons (pv 2) (pa_cons (pv 5) pa_nil))))) pa_nil)))
      (pss_cons (ps_if (pt_cmpR op_eq (pv 4) pe_str (nomark _)) (pss_one (ps_expr (pe_dpop2 (pe_fld (pv 1) (by rfl)) (pv 2) pe_non ⟨rfl, rfl, rfl, rfl⟩)))
        (pss_one (ps_if (pt_cmp (pc_dnotin (hu_of hr) (pv 2) (pe_fld (pv 1) (by rfl)))) (pss_one (ps_dput (hu_of hr) (pe_fld (pv 1) (by rfl)) (pv 2) pe_bl (by rfl))) pss_nil)))
      (pss_cons (ps_expr (pe_dpop2 (pe_fld (pv 1) (by rfl)) (pv 2) pe_non ⟨rfl, rfl, rfl, rfl⟩))
      (pss_one (ps_ret (pe_ifExp (pt_cmp (pc_din (hu_of hr) (pv 2) (pe_fld (pv 1) (by rfl)))) (pe_revL (pe_dpop1 (pe_fld (pv 1) (by rfl)) (pv 2) ⟨rfl, rfl, rfl, rfl⟩)) (pe_lst pa_nil)))))))), ?_⟩
    obtain ⟨fp, fu, rfl, st, dfu⟩ := Fate.two hs hf
    obtain ⟨fs, ef, df⟩ := m.ar.fates
    have hfa := m.atL rfl ef
    have hlen : fs.length = M.fates.length := by rw [df.len, List.length_map]
    have b1 := m.ar.bd
    have b2 := m.ar.bd2
    refine gasg ⟨_, rfl, fp, _, rfl, st, rfl, _, _, rfl, _, _, rfl, rfl, ?_⟩
    refine gasg ⟨_, rfl, _, rfl, L.ad .bk, c.bk, L.bdx, _, .ref (L.ad .fates), rfl, m.atB, X.bk.c, X.bk.n _ (by decide), rfl, _, rfl, L.ad .fates, _, _, n, rfl, rfl, hfa, ixN_lt (by rw [hlen]; exact hn), ?_⟩
    have m1 := m.fatesS 0 (fs.set n (.ref fp)) (M.fates.set n f) (by rw [List.map_set]; exact DtAll.set hf n df) (by rw [List.length_set]; show _ ≤ M.ticks + 0; omega)
    have s1 := (Stp.refl H L).put m.cr (m.ar.fx .fates rfl) (o := .lst (fs.set n (.ref fp)))
    obtain ⟨evs, ee, de⟩ := m1.ar.events
    have hev := m1.atL rfl ee
    have du1 : DtAll K _ [.str f.word, .int (n : Int), fu] [.str f.word, .int (n : Int), f.arg] := .cons (.str _) (.cons (.int _) (.cons (dfu.kept (s1.kept m.cr)) .nil))
    refine gdrop_of ⟨_, rfl, L.ad .st, c.st, L.dx, _, .ref (L.ad .events), rfl, m1.atS, X.st.c, X.st.n _ (by decide), rfl, .inl ⟨rfl, _, SqL.of hev⟩, _, rfl, L.ad .st, c.st, L.dx, _, .int M.clock, rfl, m1.atS, X.st.c, X.st.n _ (by decide), rfl, _, rfl, _, rfl, _, rfl, by show 4 ≤ sizeLine; decide, fun p hp => ?_⟩
    obtain ⟨m2, s2, h2⟩ := m1.tell ee hp du1
    refine ⟨L.ad .events, _, _, rfl, rfl, h2, by rw [de.len, sizeLine_eq]; show M.events.length < _; omega, ?_⟩
    have m3 : MR K c _ _ (behind1 M n f) := m2
    have s3 := s1.trans s2
    have ht3 : (behind1 M n f).ticks = M.ticks + 1 := rfl
    have hw2 : ∀ z : Str, decide (V.str f.word = V.str z) = decide (f.word = z) := fun z => by by_cases q : f.word = z <;> simp [q]
    have hta := m3.atL rfl m3.ar.taken
    have hun := m3.atL rfl m3.ar.untold
    have gt := DGet.k (k := .inl (n : Int)) hta
    rw [val_mk] at gt
    have b3 := m3.ar.bd2
    refine gmid_of (fun σ' H' => (σ'[0]? = some (some (.ref (L.ad .st))) ∧ σ'[1]? = some (some (.ref (L.ad .bk))) ∧ σ'[2]? = some (some (.int (n : Int)))) ∧ ∃ L', MR K c H' L' (behind2 M n f) ∧ Stp H L H' L') (fun N hN => ?_) (fun σ' H' hm => ?_)
    · refine ⟨_, rfl, rfl, _, rfl, ?_⟩
      rw [hw2]
      refine ife (fun e => ?_) (fun e => ?_)
      · have e2 : behind2 M n f = { behind1 M n f with taken := dp (behind1 M n f).taken (.inl (n : Int)) } := if_pos (of_decide_eq_true e)
        refine ⟨_, rfl, L.ad .bk, c.bk, L.bdx, _, .ref (L.ad .taken), rfl, m3.atB, X.bk.c, X.bk.n _ (by decide), rfl, L.ad .taken, rfl, .inl ⟨_, .inl hta⟩, _, rfl, _, .inl (n : Int), hta, rfl, fun v hv => ?_, fun hv => ?_⟩
        · rw [drop_mk]
          exact hN _ _ ⟨⟨rfl, rfl, rfl⟩, _, by rw [e2]; exact m3.takenS 0 _ (by have := len_dp (behind1 M n f).taken (.inl (n : Int)); show _ ≤ (behind1 M n f).ticks + 0; omega), s3.put m3.cr (m3.ar.fx .taken rfl)⟩
        · have hv : valV (kvD vT (behind1 M n f).taken) (.inl (n : Int)) = none := hv
          rw [val_mk, Option.map_eq_none_iff] at hv
          rw [dp_none hv] at e2
          exact hN _ _ ⟨⟨rfl, rfl, rfl⟩, _, by rw [e2]; exact m3, s3⟩
      · have hk : ¬ f.word = "kept" := of_decide_eq_false e
        refine ⟨_, rfl, _, rfl, L.ad .bk, c.bk, L.bdx, _, .ref (L.ad .taken), rfl, m3.atB, X.bk.c, X.bk.n _ (by decide), rfl, L.ad .taken, _, rfl, gt, _, rfl, ?_⟩
        cases hq : lk (behind1 M n f).taken (.inl (n : Int)) with
        | some u =>
          refine iteF ?_
          have e2 : behind2 M n f = behind1 M n f := (if_neg hk).trans (if_neg (by rw [hq]; exact fun z => by cases z))
          exact hN _ _ ⟨⟨rfl, rfl, rfl⟩, _, by rw [e2]; exact m3, s3⟩
        | none =>
          refine iteT ?_
          have e2 : behind2 M n f = { behind1 M n f with untold := pt (behind1 M n f).untold (.inl (n : Int)) (), ticks := (behind1 M n f).ticks + 1 } := (if_neg hk).trans (if_pos hq)
          have e1 : putK (kvD vT (behind1 M n f).untold) (.inl (n : Int)) (.bl true) = kvD vT (pt (behind1 M n f).untold (.inl (n : Int)) ()) := put_mk vT (.inl (n : Int)) () _
          refine ⟨_, rfl, L.ad .bk, c.bk, L.bdx, _, .ref (L.ad .untold), rfl, m3.atB, X.bk.c, X.bk.n _ (by decide), rfl, _, rfl, L.ad .untold, _, rfl, DPut.k (k := .inl (n : Int)) hun (by rw [len_mk, sizeLine_eq]; omega), ?_⟩
          rw [e1]
          exact hN _ _ ⟨⟨rfl, rfl, rfl⟩, _, by rw [e2]; exact m3.untoldS 1 _ (by have := len_pt (behind1 M n f).untold (.inl (n : Int)) (); omega), s3.put m3.cr (m3.ar.fx .untold rfl)⟩
    · obtain ⟨⟨h0, h1, h2⟩, L', m', s'⟩ := hm
      rw [← s'.bk] at h1
      have hlt : (behind2 M n f).ticks ≤ M.ticks + 2 := by unfold behind2; simp only; split <;> (try split) <;> simp [behind1, tellM]
      have etk : (behind2 M n f).takers = M.takers := by unfold behind2; simp only; split <;> (try split) <;> rfl
      obtain ⟨gs, eg, dg⟩ := m'.ar.gathers
      have hga := m'.atL rfl eg
      obtain ⟨pg1, pg2⟩ := valV_paired (R := RGa K H') (fun _ _ z => z.1) (k := .inl (n : Int)) dg
      refine gmid_of (fun σ2 H2 => σ2 = σ' ∧ ∃ L2, MR K c H2 L2 { behind2 M n f with gathers := dp (behind2 M n f).gathers (.inl (n : Int)) } ∧ Stp H L H2 L2) (fun N hN => ?_) (fun σ2 H2 hm => ?_)
      · refine ⟨_, h1, L'.ad .bk, c.bk, L'.bdx, _, .ref (L'.ad .gathers), rfl, m'.atB, X.bk.c, X.bk.n _ (by decide), rfl, L'.ad .gathers, rfl, .inl ⟨_, .inl hga⟩, _, h2, _, .inl (n : Int), hga, rfl, fun v hv => ?_, fun hv => ?_⟩
        · exact hN _ _ ⟨rfl, _, m'.gathersS 0 _ _ pg1 (by have := m'.ar.bd2; have := len_dp (behind2 M n f).gathers (.inl (n : Int)); omega), s'.put m'.cr (m'.ar.fx .gathers rfl)⟩
        · exact hN _ _ ⟨rfl, _, by rw [dp_none (pg2.mp hv)]; exact m', s'⟩
      obtain ⟨rfl, L2, m2, s2⟩ := hm
      rw [s'.bk, ← s2.bk] at h1
      have hkt := m2.atL rfl m2.ar.takers
      have gt2 : DGet H2 (L2.ad .takers) (kV (.inl (n : Int))) ((lk M.takers (.inl (n : Int))).map (vL L2 (.inl (n : Int)))) := by
        rw [← etk, ← val_mk]
        exact DGet.k (k := .inl (n : Int)) hkt
      refine ⟨_, h2, _, h1, L2.ad .bk, c.bk, L2.bdx, _, .ref (L2.ad .takers), rfl, m2.atB, X.bk.c, X.bk.n _ (by decide), rfl, L2.ad .takers, _, rfl, gt2, _, rfl, ?_⟩
      cases hq : lk M.takers (.inl (n : Int)) with
      | some ts =>
        refine iteT ?_
        obtain ⟨lv, vs, ev, pv', _⟩ := m2.ar.tls (.inl (n : Int)) ts (by rw [← hq, ← etk])
        have hne : L2.ad (.tl (.inl (n : Int))) ≠ L2.ad .takers := fun z => by
          have q := m2.cr.ro _ lv
          rw [z, m2.cr.ro _ (m2.ar.fx .takers rfl)] at q
          cases Option.some.inj q
        have m4 := m2.takersD (.inl (n : Int))
        have s4 := (s2.put m2.cr (m2.ar.fx .takers rfl) (o := .dK (kvD (vL L2) (dp (behind2 M n f).takers (.inl (n : Int)))))).kill (t := .tl (.inl (n : Int)))
        have hvv : valV (kvD (vL L2) (behind2 M n f).takers) (.inl (n : Int)) = some (.ref (L2.ad (.tl (.inl (n : Int))))) := by
          rw [val_mk, etk, hq]; rfl
        have e4 : dropK (kvD (vL L2) (behind2 M n f).takers) (.inl (n : Int)) = kvD (vL L2) (dp (behind2 M n f).takers (.inl (n : Int))) := drop_mk _ _ _
        refine ⟨_, h1, L2.ad .bk, c.bk, L2.bdx, _, .ref (L2.ad .takers), rfl, m2.atB, X.bk.c, X.bk.n _ (by decide), rfl, L2.ad .takers, rfl, .inl ⟨_, .inl hkt⟩, _, h2, _, .inl (n : Int), _, hkt, rfl, hvv, L2.ad (.tl (.inl (n : Int))), vs, rfl, ?_, fun p hp => ?_⟩
        · refine SqL.of ?_
          rw [upd_ne hne, m2.cr.at_ _ lv, ev]
        · rw [e4] at hp ⊢
          obtain ⟨q1, q2⟩ := s4.fresh m4.cr hp
          have s5 := Same.new (o := .lst vs.reverse) (Same.refl (upd H2 (L2.ad .takers) (.dK (kvD (vL L2) (dp (behind2 M n f).takers (.inl (n : Int))))))) hp
          refine k _ _ p _ (m4.same s5) (s4.tmp s5) q1 q2 upd_same ?_
          unfold behindT
          rw [hq]
          exact paired_rev (Paired.mapP pv' fun _ _ z => (z.kept (Kept.refl.upd hkt nf_d)).kept (Kept.of (c := c) s5))
      | none =>
        refine iteF ?_
        refine ⟨Nat.zero_le _, fun p hp => ?_⟩
        have s5 := Same.new (o := .lst []) (Same.refl H2) hp
        obtain ⟨q1, q2⟩ := s2.fresh m2.cr hp
        have e5 : behindM M n f = { behind2 M n f with gathers := dp (behind2 M n f).gathers (.inl (n : Int)) } := by
          unfold behindM
          simp only
          rw [dp_none (by rw [etk]; exact hq)]
        refine k _ _ p [] (by rw [e5]; exact m2.same s5) (s2.tmp s5) q1 q2 upd_same ?_
        unfold behindT
        rw [hq]
        exact .nil
end
end My

set_option Elab.async false
set_option linter.all false
set_option maxRecDepth 100000
set_option maxHeartbeats 4000000
namespace My
open PySem L2 PyProof.Rows
/-! ### the end of a row of followers -/
/-- from n on: who follows, in a row, and the end -/
inductive EndRow (M : Mach) : Nat → List Nat → Nat → Prop
  | stop {n : Nat} {f : Fate} : M.fates[n]? = some f → f.word ≠ "follows" → EndRow M n [] n
  | step {n a e : Nat} {f : Fate} {r : List Nat} : M.fates[n]? = some f → f.word = "follows" → lk M.ahead (.inl (n : Int)) = some a → EndRow M a r e → EndRow M n (n :: r) e
def aheadM (M : Mach) (row : List Nat) (e : Nat) : Mach := { M with ahead := row.foldl (fun (l : List (Key × Nat)) (r : Nat) => pt l (.inl ((r : Nat) : Int)) e) M.ahead, ticks := M.ticks + row.length }
theorem aheadM_snoc (M : Mach) (row : List Nat) (e r : Nat) : aheadM M (row ++ [r]) e = { aheadM M row e with ahead := pt (aheadM M row e).ahead (.inl (r : Int)) e, ticks := (aheadM M row e).ticks + 1 } := by
  unfold aheadM
  rw [List.foldl_append, List.length_append]
  rfl
abbrev nEnd : List Str := ["book", "number", "row", "follower"]
theorem scEnd : FnScope nEnd ["book", "number"] (d_end_of_row).scope := ⟨rfl, rfl, rfl, by decide +kernel, rfl, by decide +kernel, by decide +kernel⟩
def spEnd (K : PySem.W.Frag) (c : CC) : Sp := fun vs H Q _ => ∃ (L : Ly) (M : Mach) (n e : Nat) (row : List Nat), vs = [.ref (L.ad .bk), .int (n : Int)] ∧ MR K c H L M ∧ EndRow M n row e ∧ M.ticks + row.length < 1000000 ∧
  ∀ H' L', MR K c H' L' (aheadM M row e) → Stp H L H' L' → Q (.int (e : Int)) H'
section
variable {P : Program} {w : World} {K : PySem.W.Frag} {mg : Str → Option Value} {pB : Heap} {c : CC}
theorem ok_end {fa : Addr} {fd : FuncData} (F : FnDd K d_end_of_row fa fd) (X : MC K c) : FnOk P w K mg pB CX0 1 fa fd ["book", "number"] (spEnd K c) := by
  refine F.ok scEnd (fun vs H Q E h => ?_) (fun cdv A outer s0 H vs Q E hr h => ?_)
  · obtain ⟨L, M, n, e, row, rfl, _⟩ := h
    rfl
  · obtain ⟨L, M, n, e, row, rfl, m, hrow, ht, k⟩ := h
    have nd := scEnd.nd
    refine ⟨_, PSs.nox <| pss_cons (ps_set (i := 2) nd rfl (Or.inl rfl) (pe_lst pa_nil))
      (pss_cons (ps_while PassesOwn.never (pt_cmpR op_eq (pe_ix ix_tup (pe_ix ix_list (pe_fld (pv 0) (by rfl)) (pv 1) (fun _ _ => rfl)) pe_int (fun _ _ => rfl)) pe_str (nomark _))
        (pss_cons (ps_expr (pe_bm PySem.F.plainAttrs_list PySem.F.slot_list_append PySem.F.type_list_append mt_append (pv 2) (pa_cons (pv 1) pa_nil)))
        (pss_one (ps_set (i := 1) nd rfl (Or.inl rfl) (pe_dget (hu_of hr) (pe_fld (pv 0) (by rfl)) (pv 1) (fun _ _ => rfl))))))
      (pss_cons (ps_for PassesOwn.never rfl (pi_list (pv 2)) (pg_name (i := 3) nd rfl (Or.inl rfl))
        (pss_one (ps_dput (hu_of hr) (pe_fld (pv 0) (by rfl)) (pv 3) (pv 1) (by rfl))))
      (pss_one (ps_ret (pv 1))))), ?_⟩
    obtain ⟨fs, ef, df⟩ := m.ar.fates
    have b1 := m.ar.bd
    have b2 := m.ar.bd2
    refine asg_n ⟨Nat.zero_le _, fun p hp => ?_⟩
    have s1 := Same.new (o := .lst []) (Same.refl H) hp
    have hpr : L.role p = none := ((Stp.refl H L).fresh m.cr hp).2
    refine gmid_of (fun σ' H' => σ' = [some (.ref (L.ad .bk)), some (.int (e : Int)), some (.ref p), none] ∧ MR K c H' L M ∧ Stp H L H' L ∧ H' p = some (.lst (row.map fun r : Nat => V.int (r : Int)))) (fun N hN => ?_) (fun σ' H' hm => ?_)
    · refine gwhile (m0 := row.length) (fun i σ' H' => ∃ (dn td : List Nat) (a : Nat), dn ++ td = row ∧ td.length = i ∧ EndRow M a td e ∧ σ' = [some (.ref (L.ad .bk)), some (.int (a : Int)), some (.ref p), none] ∧ MR K c H' L M ∧ Stp H L H' L ∧ H' p = some (.lst (dn.map fun r : Nat => V.int (r : Int))))
        (fun i σ' H' b H1 => H1 = H' ∧ ∃ (a : Nat) (f : Fate), σ'[1]? = some (some (.int (a : Int))) ∧ M.fates[a]? = some f ∧ b = decide (f.word = "follows")) ?_ ?_ ?_ ?_
      · exact ⟨[], row, n, rfl, rfl, hrow, rfl, m.same s1, (Stp.refl H L).tmp s1, upd_same⟩
      · rintro i σ' H' ⟨dn, td, a, h1, h2, h3, rfl, m', s', h4⟩ C hC
        have hf : ∃ f, M.fates[a]? = some f := by cases h3 with | stop h _ => exact ⟨_, h⟩ | step h _ _ _ => exact ⟨_, h⟩
        obtain ⟨f, hf⟩ := hf
        obtain ⟨fs, ef, df⟩ := m'.ar.fates
        obtain ⟨v, hv, dv⟩ := df.at (i := a) (d := f.d) (by rw [List.getElem?_map, hf]; rfl)
        obtain ⟨q, xs, rfl, st, hw⟩ := Fate.dI dv
        refine ⟨_, rfl, L.ad .bk, c.bk, L.bdx, _, .ref (L.ad .fates), rfl, m'.atB, X.bk.c, X.bk.n _ (by decide), rfl, _, rfl, _, _, _, _, rfl, rfl, SqL.of (m'.atL rfl ef), atI_nat hv, _, _, _, _, rfl, rfl, st, atI_nat (j := 0) hw, rfl, _, rfl, ?_⟩
        exact hC _ _ ⟨rfl, a, f, rfl, hf, by by_cases q : f.word = "follows" <;> simp [q]⟩
      · rintro i σ' H' H1 ⟨dn, td, a, h1, h2, h3, rfl, m', s', h4⟩ ⟨rfl, a', f, ha, hf, hb⟩
        have ea : a' = a := by have := Option.some.inj (Option.some.inj ha); have := V.int.inj this; omega
        subst ea
        cases h3 with
        | stop hf' hw' => rw [hf'] at hf; cases hf; rw [decide_eq_false hw'] at hb; cases hb
        | @step _ a2 _ f' r hf' hw' hk hr' =>
        have hah := m'.atL rfl m'.ar.ahead
        have hpr2 : L.role p = none := hpr
        have hlen : dn.length < 1000000 := by
          have := congrArg List.length h1
          rw [List.length_append] at this
          omega
        refine gdrop_of ⟨_, rfl, .inl ⟨rfl, _, SqL.of h4⟩, _, rfl, p, _, _, rfl, rfl, h4, by rw [List.length_map, sizeLine_eq]; omega, ?_⟩
        have m2 : MR K c (upd H1 p (.lst (dn.map (fun r : Nat => V.int (r : Int)) ++ [.int (a' : Int)]))) L M := ⟨m'.cr.oth hpr, m'.ar.kept (Kept.refl.upd h4 nf_l)⟩
        have hah2 := m2.atL rfl m2.ar.ahead
        have g2 := DGet.k (k := .inl (a' : Int)) hah2
        rw [val_mk, hk] at g2
        refine asg_1 ⟨_, rfl, L.ad .bk, c.bk, L.bdx, _, .ref (L.ad .ahead), rfl, m2.atB, X.bk.c, X.bk.n _ (by decide), rfl, _, rfl, L.ad .ahead, _, rfl, g2, ?_⟩
        exact ⟨r.length, by rw [← h2]; exact Nat.lt_succ_self _, dn ++ [a'], r, a2, by rw [← h1, List.append_assoc]; rfl, rfl, hr', rfl, m2, s'.oth hp, by rw [upd_same, List.map_append]; rfl⟩
      · rintro i σ' H' H1 ⟨dn, td, a, h1, h2, h3, rfl, m', s', h4⟩ ⟨rfl, a', f, ha, hf, hb⟩
        have ea : a' = a := by have := Option.some.inj (Option.some.inj ha); have := V.int.inj this; omega
        subst ea
        cases h3 with
        | step hf' hw' _ _ => rw [hf'] at hf; cases hf; rw [decide_eq_true hw'] at hb; cases hb
        | stop hf' hw' =>
        rw [List.append_nil] at h1
        subst h1
        exact hN _ _ ⟨rfl, m', s', h4⟩
    · obtain ⟨rfl, m', s', h4⟩ := hm
      refine gmid_of (fun σ' H1 => σ'[1]? = some (some (.int (e : Int))) ∧ ∃ L', MR K c H1 L' (aheadM M row e) ∧ Stp H L H1 L') (fun N hN => ?_) (fun σ' H1 hm => ?_)
      · refine ⟨_, rfl, p, rfl, ⟨_, SqL.of h4⟩, ?_⟩
        have hpr' : L.role p = none := hpr
        refine for_list (xs := row.map fun r : Nat => V.int (r : Int)) (fun i σ2 H2 => (σ2[0]? = some (some (.ref (L.ad .bk))) ∧ σ2[1]? = some (some (.int (e : Int))) ∧ σ2[2]? = some (some (.ref p)) ∧ σ2.length = 4) ∧ ∃ L', MR K c H2 L' (aheadM M (row.take i) e) ∧ Stp H' L H2 L') ⟨⟨rfl, rfl, rfl, rfl⟩, L, m', Stp.refl _ _⟩ ?_ ?_ ?_
        · rintro i σ2 H2 hi ⟨_, L', m2, s2⟩
          exact SqL.of (s2.off p _ h4 hpr')
        · rintro i x σ2 H2 hx ⟨⟨g0, g1, g2, g3⟩, L', m2, s2⟩
          rw [List.getElem?_map] at hx
          cases hr2 : row[i]? with
          | none => rw [hr2] at hx; cases hx
          | some r =>
          rw [hr2] at hx
          obtain rfl : V.int (r : Int) = x := Option.some.inj hx
          have hah := m2.atL rfl m2.ar.ahead
          have tl : (row.take i).length ≤ row.length := by rw [List.length_take]; omega
          have htk : (aheadM M (row.take i) e).ticks = M.ticks + (row.take i).length := rfl
          have b3 := m2.ar.bd2
          have hi : i < row.length := (List.getElem?_eq_some_iff.mp hr2).1
          have e1 : putK (kvD vI (aheadM M (row.take i) e).ahead) (.inl (r : Int)) (V.int (e : Int)) = kvD vI (pt (aheadM M (row.take i) e).ahead (.inl (r : Int)) e) := put_mk vI (.inl (r : Int)) e _
          have q0 : (σ2.set 3 (some (V.int (r : Int))))[0]? = some (some (.ref (L'.ad .bk))) := by rw [List.getElem?_set_ne (by decide), g0, s2.bk]
          have q1 : (σ2.set 3 (some (V.int (r : Int))))[1]? = some (some (.int (e : Int))) := by rw [List.getElem?_set_ne (by decide), g1]
          have q2 : (σ2.set 3 (some (V.int (r : Int))))[2]? = some (some (.ref p)) := by rw [List.getElem?_set_ne (by decide), g2]
          have q3 : (σ2.set 3 (some (V.int (r : Int))))[3]? = some (some (V.int (r : Int))) := List.getElem?_set_self (by rw [g3]; decide)
          refine ⟨_, q1, _, q0, L'.ad .bk, c.bk, L'.bdx, _, .ref (L'.ad .ahead), rfl, m2.atB, X.bk.c, X.bk.n _ (by decide), rfl, _, q3, L'.ad .ahead, _, rfl, DPut.k (k := .inl (r : Int)) hah (by rw [len_mk, sizeLine_eq]; omega), ?_⟩
          rw [e1]
          refine ⟨⟨by rw [q0, s2.bk], q1, q2, by rw [List.length_set]; exact g3⟩, _, ?_, s2.put m2.cr (m2.ar.fx .ahead rfl)⟩
          rw [take_snoc hr2, aheadM_snoc]
          exact m2.aheadS 1 _ (by have := len_pt (aheadM M (row.take i) e).ahead (.inl (r : Int)) e; omega)
        · rintro σ2 H2 ⟨⟨g0, g1, g2, g3⟩, L', m2, s2⟩
          rw [List.length_map, List.take_length] at m2
          exact hN _ _ ⟨g1, L', m2, s'.trans s2⟩
      · obtain ⟨h1, L', m2, s2⟩ := hm
        exact ⟨_, h1, k _ _ m2 s2⟩
end
end My

set_option Elab.async false
set_option linter.all false
set_option maxRecDepth 100000
set_option maxHeartbeats 4000000
namespace My
open PySem L2 PyProof.Rows
/-! ### what is done at once for who waited -/
def Tk.isFollow : Tk → Bool
  | .follow _ => true
  | _ => false
def Tk.word : Tk → Str
  | .work _ => "work"
  | .thn .. => "then"
  | .gather .. => "gather"
  | .follow _ => "follow"
def microM (M : Mach) (t : Tk) (f : Fate) : Mach × Mi := match t with
  | .work w => ({ M with waits := match w.pledge with | some p => dp M.waits (.inl (p : Int)) | none => M.waits }, .work w (some f))
  | .thn n p k b => (M, match (if f.word = "kept" then k else b) with | none => .settle n p f | some ds => .work ⟨n, .none, ds, f.arg, some p, none⟩ none)
  | .gather n p i => (M, .gather n p i f)
  | .follow n => (M, .settle 0 n f)
def pushM (M : Mach) (t : Tk) (f : Fate) : Mach := { (microM M t f).1 with micros := (microM M t f).1.micros ++ [(microM M t f).2], ticks := (microM M t f).1.ticks + 1 }
def spMic (K : PySem.W.Frag) (c : CC) (R : Tk → Prop) : Sp := fun vs H Q _ => ∃ (L : Ly) (M : Mach) (t : Tk) (f : Fate) (vt vf : V), vs = [.ref (L.ad .bk), vt, vf] ∧ MR K c H L M ∧ RTk K c H vt t ∧ f.settled = true ∧ Dt K H vf f.d ∧ t.isFollow = false ∧ R t ∧ M.ticks < 1000000 ∧
  ∀ H' L' v, MR K c H' L' (microM M t f).1 → Stp H L H' L' → L'.ad .micros = L.ad .micros → RMi K c H' v (microM M t f).2 → Q v H'
/-! ### a promise is settled -/
/-- those who come, the last first: k steps -/
inductive Come (R : Tk → Prop) (f : Fate) : Nat → Mach → List Tk → Mach → Prop
  | nil (M : Mach) : Come R f 0 M [] M
  | follow {k n : Nat} {M M' : Mach} {st : List Tk} : n < M.fates.length → (st ++ behindT M n).length < 1000000 → Come R f k (behindM M n f) (st ++ behindT M n) M' → Come R f (k + 1) M (st ++ [.follow n]) M'
  | other {k : Nat} {t : Tk} {M M' : Mach} {st : List Tk} : R t → t.isFollow = false → Come R f k (pushM M t f) st M' → Come R f (k + 1) M (st ++ [t]) M'
inductive Settle (R : Tk → Prop) (M : Mach) (n : Nat) (f : Fate) : Mach → Prop
  | again {g : Fate} : M.fates[n]? = some g → g.word ≠ "open" → SeqAt.shaped g.d = true → Settle R M n f (tellM M [.str "again", .int (n : Int)])
  | opn {k : Nat} {M' : Mach} : M.fates[n]? = some .opn → Come R f k (behindM M n f) (behindT M n) M' → Settle R M n f M'
theorem behindM_ticks (M : Mach) (n : Nat) (f : Fate) : M.ticks ≤ (behindM M n f).ticks := by
  unfold behindM behind2 behind1 tellM
  simp only
  split <;> (try split) <;> simp only <;> omega
theorem pushM_ticks (M : Mach) (t : Tk) (f : Fate) : M.ticks ≤ (pushM M t f).ticks := by
  unfold pushM microM
  cases t <;> simp
theorem Come.ticks {R : Tk → Prop} {f : Fate} {k : Nat} {M M' : Mach} {st : List Tk} (h : Come R f k M st M') : M.ticks ≤ M'.ticks := by
  induction h with
  | nil => exact Nat.le_refl _
  | follow _ _ _ ih => exact Nat.le_trans (behindM_ticks ..) ih
  | other _ _ _ ih => exact Nat.le_trans (pushM_ticks ..) ih
theorem RTk.word {K : PySem.W.Frag} {c : CC} {H : Hp} {v : V} {t : Tk} (h : RTk K c H v t) : ∃ a xs, v = .ref a ∧ H a = some (.tup xs) ∧ xs[1]? = some (.str t.word) := by
  cases t with
  | work w => obtain ⟨a, vw, e, h1, _⟩ := h; exact ⟨a, _, e, h1, rfl⟩
  | thn n p x y => obtain ⟨a, vk, vb, e, h1, _⟩ := h; exact ⟨a, _, e, h1, rfl⟩
  | gather n p i => obtain ⟨a, e, h1⟩ := h; exact ⟨a, _, e, h1, rfl⟩
  | follow n => obtain ⟨a, e, h1⟩ := h; exact ⟨a, _, e, h1, rfl⟩
theorem Tk.word_follow (t : Tk) : t.word = "follow" ↔ t.isFollow = true := by
  cases t <;> simp [Tk.word, Tk.isFollow] <;> decide
theorem Fate.eqv_open (g : Fate) : PyData.eqv g.d (.tuple [.str "open"]) = decide (g.word = "open") := by
  cases g <;> rfl
theorem sh_open : SeqAt.shaped (.tuple [.str "open"]) = true := by first | rfl | decide +kernel | (simp [SeqAt.shaped, PyData.canLay0, PyData.depth])
theorem paired_snocI {α β : Type} {F : α → β → Prop} {y : β} : ∀ {l : List α} {m : List β}, Paired F l (m ++ [y]) → ∃ l' x, l = l' ++ [x] ∧ Paired F l' m ∧ F x y
  | _, [], h => by
    cases h with
    | cons r t => cases t; exact ⟨[], _, rfl, .nil, r⟩
  | _, z :: m, h => by
    cases h with
    | cons r t =>
      obtain ⟨l', x, rfl, h1, h2⟩ := paired_snocI t
      exact ⟨_ :: l', x, rfl, .cons r h1, h2⟩
abbrev nSet : List Str := ["state", "number", "fate", "book", "coming", "taker"]
theorem scSet : FnScope nSet ["state", "number", "fate"] (d_settle).scope := ⟨rfl, rfl, rfl, by decide +kernel, rfl, by decide +kernel, by decide +kernel⟩
def spSet (K : PySem.W.Frag) (c : CC) (R : Tk → Prop) : Sp := fun vs H Q _ => ∃ (L : Ly) (M M' : Mach) (n : Nat) (f : Fate) (vf : V), vs = [.ref (L.ad .st), .int (n : Int), vf] ∧ MR K c H L M ∧ Settle R M n f M' ∧ f.settled = true ∧ Dt K H vf f.d ∧ M'.ticks < 1000000 ∧
  ∀ H' L', MR K c H' L' M' → Stp H L H' L' → Q .non H'
section
variable {P : Program} {w : World} {K : PySem.W.Frag} {mg : Str → Option Value} {pB : Heap} {c : CC}
theorem ok_set {R : Tk → Prop} {fa oA fO fB fM : Addr} {fd dO dB dM : FuncData} (F : FnDd K d_settle fa fd) (X : MC K c) (mO : mg "OPEN" = some (.ref oA)) (kO : CTup K oA [.str "open"])
    (GO : FnOk P w K mg pB CX0 1 fO dO ["state"] (spOwn K c)) (CO : Cal K mg "own_book" fO dO ["state"])
    (GB : FnOk P w K mg pB CX0 1 fB dB ["state", "book", "number", "fate"] (spBeh K c)) (CB : Cal K mg "takers_behind" fB dB ["state", "book", "number", "fate"])
    (GM : FnOk P w K mg pB CX0 3 fM dM ["book", "taker", "fate"] (spMic K c R)) (CM : Cal K mg "micro_of" fM dM ["book", "taker", "fate"]) : FnOk P w K mg pB CX0 4 fa fd ["state", "number", "fate"] (spSet K c R) := by
  refine F.ok scSet (fun vs H Q E h => ?_) (fun cdv A outer s0 H vs Q E hr h => ?_)
  · obtain ⟨L, M, M', n, f, vf, rfl, _⟩ := h
    rfl
  · obtain ⟨L, M, M', n, f, vf, rfl, m, hset, hs, hf, ht, k⟩ := h
    have nd := scSet.nd
    have pO : ∀ {X : Cx} {p : Pos}, Gl X "OPEN" → X.mg "OPEN" = some (.ref oA) → PE X (.Name "OPEN" p) (tC (.ref oA)) := fun hg hm => pe_glob hg hm (show RelV (.ref oA) _ from rfl)
    refine ⟨_, PSs.nox <| pss_cons (ps_set (i := 3) nd rfl (Or.inl rfl) (pe_fld (pv 0) (by rfl)))
      (pss_cons (ps_if (pt_cmpR (op_neD hr.units) (pe_ix ix_list (pe_fld (pv 3) (by rfl)) (pv 1) (fun _ _ => rfl)) (pO (by rfl) mO) (nomark _))
        (pss_cons (ps_expr (pe_bm PySem.F.plainAttrs_list PySem.F.slot_list_append PySem.F.type_list_append mt_append (pe_fld (pv 0) (by rfl)) (pa_cons (pe_tup (pa_cons (pe_fld (pv 0) (by rfl)) (pa_cons pe_str (pa_cons (pv 1) pa_nil)))) pa_nil)))
        (pss_one ps_retN)) pss_nil)
      (pss_cons (ps_if (PW.pt (pw_or (pt_val (pe_fld (pv 3) (by rfl))) (pw_or1 (pt_cmp (pc_notN (pe_fld (pv 3) (by rfl))))))) (pss_one ps_never) pss_nil)
      (pss_cons (ps_set (i := 4) nd rfl (Or.inl rfl) (pe_call GB (hr.mono (by decide)) (by rfl) CB.m CB.k CB.b .nil pass0 (pa_cons (pv 0) (pa_cons (pv 3) (pa_cons (pv 1) (pa_cons (pv 2) pa_nil))))))
      (pss_one (ps_while PassesOwn.never (pt_truth (pv 4) (by intro _; rfl))
        (pss_cons (ps_set (i := 5) nd rfl (Or.inl rfl) (pe_bm0 PySem.F.plainAttrs_list PySem.F.slot_list_pop PySem.F.type_list_pop mt_pop (pv 4)))
        (pss_one (ps_if (pt_cmpR op_eq (pe_ix ix_tup (pv 5) pe_int (fun _ _ => rfl)) pe_str (nomark _))
          (pss_one (ps_expr (pe_bm PySem.F.plainAttrs_list PySem.F.slot_list_extend PySem.F.type_list_extend mt_extend (pv 4) (pa_cons (pe_call GB (hr.mono (by decide)) (by rfl) CB.m CB.k CB.b .nil pass0 (pa_cons (pv 0) (pa_cons (pv 3) (pa_cons (pe_ix ix_tup (pv 5) pe_int (fun _ _ => rfl)) (pa_cons (pv 2) pa_nil))))) pa_nil))))
          (pss_one (ps_expr (pe_bm PySem.F.plainAttrs_list PySem.F.slot_list_append PySem.F.type_list_append mt_append (pe_fld (pv 0) (by rfl)) (pa_cons (pe_call GM (hr.mono (by decide)) (by rfl) CM.m CM.k CM.b .nil pass0 (pa_cons (pv 3) (pa_cons (pv 5) (pa_cons (pv 2) pa_nil)))) pa_nil)))))))))))), ?_⟩
    obtain ⟨fs, ef, df⟩ := m.ar.fates
    have hfa := m.atL rfl ef
    refine asg_n ⟨_, rfl, L.ad .st, c.st, L.dx, _, .ref (L.ad .bk), rfl, m.atS, X.st.c, X.st.n _ (by decide), rfl, ?_⟩
    have dO : Dp K H (.ref oA) (.tuple [.str "open"]) := .tup (kO.at H) (.cons (.str _) .nil)
    cases hset with
    | @again g hg hw hsh =>
      obtain ⟨v, hv, dv⟩ := df.at (i := n) (d := g.d) (by rw [List.getElem?_map, hg]; rfl)
      refine ⟨_, rfl, L.ad .bk, c.bk, L.bdx, _, .ref (L.ad .fates), rfl, m.atB, X.bk.c, X.bk.n _ (by decide), rfl, _, rfl, _, _, _, _, rfl, rfl, SqL.of hfa, atI_nat hv, _, _, dv.dp, dO, hsh, sh_open, _, rfl, ?_⟩
      rw [Fate.eqv_open, decide_eq_false hw]
      refine iteT ?_
      obtain ⟨evs, ee, de⟩ := m.ar.events
      have hev := m.atL rfl ee
      have b1 := m.ar.bd
      refine gdrop_of ⟨_, rfl, L.ad .st, c.st, L.dx, _, .ref (L.ad .events), rfl, m.atS, X.st.c, X.st.n _ (by decide), rfl, .inl ⟨rfl, _, SqL.of hev⟩, _, rfl, L.ad .st, c.st, L.dx, _, .int M.clock, rfl, m.atS, X.st.c, X.st.n _ (by decide), rfl, _, rfl, by show 3 ≤ sizeLine; decide, fun p hp => ?_⟩
      obtain ⟨m1, s1, h1⟩ := m.tell ee hp (vs := [.str "again", .int (n : Int)]) (ds := [.str "again", .int (n : Int)]) (.cons (.str _) (.cons (.int _) .nil))
      exact ⟨L.ad .events, _, _, rfl, rfl, h1, by rw [de.len, sizeLine_eq]; simp only [tellM] at ht; omega, k _ _ m1 s1⟩
    | @opn j _ hg hcome =>
      obtain ⟨v, hv, dv⟩ := df.at (i := n) (d := Fate.opn.d) (by rw [List.getElem?_map, hg]; rfl)
      refine ⟨_, rfl, L.ad .bk, c.bk, L.bdx, _, .ref (L.ad .fates), rfl, m.atB, X.bk.c, X.bk.n _ (by decide), rfl, _, rfl, _, _, _, _, rfl, rfl, SqL.of hfa, atI_nat hv, _, _, dv.dp, dO, sh_open, sh_open, _, rfl, ?_⟩
      rw [Fate.eqv_open, decide_eq_true (show Fate.opn.word = "open" from rfl)]
      refine iteF (nxt_of ?_)
      refine ⟨_, rfl, L.ad .bk, c.bk, L.bdx, _, .bl false, rfl, m.atB, X.bk.c, X.bk.n _ (by decide), rfl, _, rfl, iteF ?_⟩
      refine ⟨_, rfl, L.ad .bk, c.bk, L.bdx, _, .non, rfl, m.atB, X.bk.c, X.bk.n _ (by decide), rfl, false, rfl, iteF (nxt_of ?_)⟩
      have hct := hcome.ticks
      have hbt := behindM_ticks M n f
      refine asg_n (call_of ⟨_, rfl, _, rfl, _, rfl, _, rfl, L, M, n, f, vf, rfl, m, (List.getElem?_eq_some_iff.mp hg).1, hs, hf, by omega, fun H1 L1 p us m1 s1 hp hr1 hl hpr => ?_⟩)
      refine gwhile (m0 := j) (fun i σ' H' => ∃ (M1 : Mach) (ts : List Tk) (us : List V) (L1 : Ly), Come R f i M1 ts M' ∧ (σ'[0]? = some (some (.ref (L.ad .st))) ∧ σ'[2]? = some (some vf) ∧ σ'[3]? = some (some (.ref (L.ad .bk))) ∧ σ'[4]? = some (some (.ref p)) ∧ σ'.length = 6) ∧ MR K c H' L1 M1 ∧ Stp H L H' L1 ∧ H' p = some (.lst us) ∧ L1.role p = none ∧ Paired (RTk K c H') us ts)
        (fun i σ' H' b H1 => H1 = H' ∧ ∀ us, H' p = some (.lst us) → b = !us.isEmpty) ⟨_, _, us, L1, hcome, ⟨rfl, rfl, rfl, rfl, rfl⟩, m1, s1, hl, hr1, hpr⟩ ?_ ?_ ?_
      · rintro i σ' H' ⟨M1, ts, us, L1, h1, ⟨g0, g2, g3, g4, g5⟩, m1, s1, hl, hr1, hpr⟩ C hC
        exact ⟨_, g4, _, .inl ⟨_, SqL.of hl, rfl⟩, hC _ _ ⟨rfl, fun us' h' => by rw [hl] at h'; cases h'; rfl⟩⟩
      · rintro i σ' H' H1 ⟨M1, ts, us, L1, h1, ⟨g0, g2, g3, g4, g5⟩, m1, s1, hl, hr1, hpr⟩ ⟨rfl, hb⟩
        have hb := hb us hl
        have h1t := h1.ticks
        have step : ∀ {ts' : List Tk} {t : Tk}, ts = ts' ++ [t] → ∃ us' v, us = us' ++ [v] ∧ Paired (RTk K c H1) us' ts' ∧ RTk K c H1 v t := fun e => by subst e; exact paired_snocI hpr
        cases h1 with
        | nil => cases hpr; cases hb
        | @follow i' n' _ _ st hn' hb' hc =>
          obtain ⟨us', v, rfl, hu, hv⟩ := step rfl
          obtain ⟨ta, rfl, hta⟩ := hv
          refine asg_n ⟨_, g4, .inl ⟨rfl, _, SqL.of hl⟩, p, _, _, rfl, rfl, hl, (show (us' ++ [V.ref ta])[(us' ++ [V.ref ta]).length - 1]? = some (.ref ta) by simp), ?_⟩
          rw [List.dropLast_concat]
          have m2 : MR K c (upd H1 p (.lst us')) L1 M1 := ⟨m1.cr.oth hr1, m1.ar.kept (Kept.refl.upd hl nf_l)⟩
          have s2 : Stp H L (upd H1 p (.lst us')) L1 := s1.oth hp
          have kp : Kept c H1 (upd H1 p (.lst us')) := Kept.refl.upd hl nf_l
          have q0 : (σ'.set 5 (some (V.ref ta)))[0]? = some (some (.ref (L1.ad .st))) := by rw [List.getElem?_set_ne (by decide), g0, s2.st]
          have q2 : (σ'.set 5 (some (V.ref ta)))[2]? = some (some vf) := by rw [List.getElem?_set_ne (by decide), g2]
          have q3 : (σ'.set 5 (some (V.ref ta)))[3]? = some (some (.ref (L1.ad .bk))) := by rw [List.getElem?_set_ne (by decide), g3, s2.bk]
          have q4 : (σ'.set 5 (some (V.ref ta)))[4]? = some (some (.ref p)) := by rw [List.getElem?_set_ne (by decide), g4]
          have q5 : (σ'.set 5 (some (V.ref ta)))[5]? = some (some (.ref ta)) := List.getElem?_set_self (by rw [g5]; decide)
          have hta2 := kp _ _ hta trivial
          refine ⟨_, q5, _, _, _, _, rfl, rfl, SqT.of hta2, atI_nat (j := 1) rfl, rfl, _, rfl, iteT ?_⟩
          refine ⟨_, q4, .inl ⟨rfl, _, SqL.of upd_same⟩, ?_⟩
          refine ⟨_, q0, _, q3, _, q5, _, _, _, _, rfl, rfl, SqT.of hta2, atI_nat (j := 2) rfl, _, q2, L1, M1, n', f, vf, rfl, m2, hn', hs, hf.kept (s2.kept m.cr), by omega, fun H3 L3 p3 us3 m3 s3 hp3 hr3 hl3 hpr3 => ?_⟩
          have h3 : H3 p = some (.lst us') := s3.off p _ upd_same hr1
          have s23 := s2.trans s3
          have hlen : us'.length + us3.length < 1000000 := by
            have a1 := Paired.length hu
            have a2 := Paired.length hpr3
            rw [List.length_append] at hb'
            omega
          refine ⟨p, p3, _, _, rfl, rfl, h3, hl3, by rw [sizeLine_eq]; omega, ?_⟩
          have r3 : L3.role p = none := s3.not (c := c) upd_same hr1
          have kp3 : Kept c H3 (upd H3 p (.lst (us' ++ us3))) := Kept.refl.upd h3 nf_l
          refine ⟨i', Nat.lt_succ_self _, behindM M1 n' f, st ++ behindT M1 n', us' ++ us3, L3, hc, ⟨by rw [q0, s2.st], q2, by rw [q3, s2.bk], q4, by rw [List.length_set]; exact g5⟩, ⟨m3.cr.oth r3, m3.ar.kept kp3⟩, s23.oth hp, upd_same, r3, ?_⟩
          exact paired_app (Paired.mapP hu fun _ _ z => ((z.kept kp).kept (s3.kept m2.cr)).kept kp3) (Paired.mapP hpr3 fun _ _ z => z.kept kp3)
        | @other i' t _ _ st hR hnf hc =>
          obtain ⟨us', v, rfl, hu, hv⟩ := step rfl
          obtain ⟨ta, xs, rfl, hta, hw⟩ := hv.word
          refine asg_n ⟨_, g4, .inl ⟨rfl, _, SqL.of hl⟩, p, _, _, rfl, rfl, hl, (show (us' ++ [V.ref ta])[(us' ++ [V.ref ta]).length - 1]? = some (.ref ta) by simp), ?_⟩
          rw [List.dropLast_concat]
          have m2 : MR K c (upd H1 p (.lst us')) L1 M1 := ⟨m1.cr.oth hr1, m1.ar.kept (Kept.refl.upd hl nf_l)⟩
          have s2 : Stp H L (upd H1 p (.lst us')) L1 := s1.oth hp
          have kp : Kept c H1 (upd H1 p (.lst us')) := Kept.refl.upd hl nf_l
          have q0 : (σ'.set 5 (some (V.ref ta)))[0]? = some (some (.ref (L1.ad .st))) := by rw [List.getElem?_set_ne (by decide), g0, s2.st]
          have q2 : (σ'.set 5 (some (V.ref ta)))[2]? = some (some vf) := by rw [List.getElem?_set_ne (by decide), g2]
          have q3 : (σ'.set 5 (some (V.ref ta)))[3]? = some (some (.ref (L1.ad .bk))) := by rw [List.getElem?_set_ne (by decide), g3, s2.bk]
          have q4 : (σ'.set 5 (some (V.ref ta)))[4]? = some (some (.ref p)) := by rw [List.getElem?_set_ne (by decide), g4]
          have q5 : (σ'.set 5 (some (V.ref ta)))[5]? = some (some (.ref ta)) := List.getElem?_set_self (by rw [g5]; decide)
          have hta2 := kp _ _ hta trivial
          have hnw : decide (V.str t.word = V.str "follow") = false := decide_eq_false fun z => by
            have := (Tk.word_follow t).mp (V.str.inj z)
            rw [hnf] at this; cases this
          refine ⟨_, q5, _, _, _, _, rfl, rfl, SqT.of hta2, atI_nat (j := 1) hw, rfl, _, rfl, ?_⟩
          rw [hnw]
          refine iteF ?_
          obtain ⟨ms, em, dm⟩ := m2.ar.micros
          refine ⟨_, q0, L1.ad .st, c.st, L1.dx, _, .ref (L1.ad .micros), rfl, m2.atS, X.st.c, X.st.n _ (by decide), rfl, .inl ⟨rfl, _, SqL.of (m2.atL rfl em)⟩, ?_⟩
          refine ⟨_, q3, _, q5, _, q2, L1, M1, t, f, .ref ta, vf, rfl, m2, hv.kept kp, hs, hf.kept (s2.kept m.cr), hnf, hR, by omega, fun H3 L3 v3 m3 s3 ea hv3 => ?_⟩
          obtain ⟨ms3, em3, dm3⟩ := m3.ar.micros
          have hm3 := m3.atL (t := .micros) rfl em3
          rw [ea] at hm3
          have hct := hc.ticks
          have b3 := m3.ar.bd
          refine ⟨L1.ad .micros, _, _, rfl, rfl, hm3, ?_, ?_⟩
          · have q := Paired.length dm3
            have : (pushM M1 t f).ticks = (microM M1 t f).1.ticks + 1 := rfl
            rw [q, sizeLine_eq]; omega
          · have m4 := m3.microsS 1 (ms3 ++ [v3]) _ (Paired.snoc hv3 dm3) (by rw [List.length_append]; show _ + 1 ≤ _; omega)
            have s4 := s3.put m3.cr (m3.ar.fx .micros rfl) (o := .lst (ms3 ++ [v3]))
            rw [ea] at m4 s4
            have r3 : L3.role p = none := s3.not (c := c) upd_same hr1
            refine ⟨i', Nat.lt_succ_self _, pushM M1 t f, st, us', _, hc, ⟨by rw [q0, s2.st], q2, by rw [q3, s2.bk], q4, by rw [List.length_set]; exact g5⟩, m4, s2.trans s4, s4.off p _ upd_same hr1, r3, ?_⟩
            exact Paired.mapP hu fun _ _ z => (z.kept kp).kept (s4.kept m2.cr)
      · rintro i σ' H' H1 ⟨M1, ts, us, L1, h1, ⟨g0, g2, g3, g4, g5⟩, m1, s1, hl, hr1, hpr⟩ ⟨rfl, hb⟩
        have hb := hb us hl
        cases hpr with
        | cons _ _ => cases hb
        | nil =>
        generalize hz : ([] : List Tk) = z at h1
        cases h1 with
        | nil => exact k _ _ m1 s1
        | follow _ _ _ => cases (List.append_eq_nil_iff.mp hz.symm).2
        | other _ _ _ => cases (List.append_eq_nil_iff.mp hz.symm).2
end
end My

set_option Elab.async false
set_option linter.all false
set_option maxRecDepth 100000
set_option maxHeartbeats 4000000
namespace My
open PySem L2 PyProof.Rows
/-! ### a work at the end of a line -/
def putM (M : Mach) (i : Nat) (w : Wk) : Mach := { M with since := if (M.queues.getD i []).isEmpty = true then M.since.set i M.picks else M.since, queues := M.queues.set i (M.queues.getD i [] ++ [w]), ticks := M.ticks + 1 }
section
variable {P : Program} {w : World} {K : PySem.W.Frag} {mg : Str → Option Value} {pB : Heap} {c : CC}
theorem MR.atLine {H : Hp} {L : Ly} {M : Mach} (m : MR K c H L M) {i : Nat} (hi : i < M.queues.length) : ∃ vs, H (L.ad (.line i)) = some (.lst vs) ∧ L.ob (.line i) = .lst vs ∧ Paired (RWk K c H) vs (M.queues.getD i []) ∧ (M.queues.getD i []).length ≤ M.ticks := by
  obtain ⟨l, vs, e, p, q⟩ := m.ar.lines i _ (List.getElem?_eq_getElem hi)
  have eg : M.queues.getD i [] = M.queues[i] := by rw [List.getD_eq_getElem?_getD, List.getElem?_eq_getElem hi]; rfl
  rw [eg]
  exact ⟨vs, by rw [m.cr.at_ _ l, e], e, p, q⟩
theorem MR.atQ {H : Hp} {L : Ly} {M : Mach} (m : MR K c H L M) : H (L.ad .queues) = some (.lst ((List.range M.queues.length).map fun i => V.ref (L.ad (.line i)))) := m.atL rfl m.ar.queues
theorem q_at {L : Ly} {n i : Nat} (hi : i < n) : ((List.range n).map fun i => V.ref (L.ad (.line i)))[i]? = some (.ref (L.ad (.line i))) := by rw [List.getElem?_map, List.getElem?_range hi]; rfl
theorem isEmpty_paired {α β : Type} {F : α → β → Prop} {xs : List α} {ys : List β} (h : Paired F xs ys) : xs.isEmpty = ys.isEmpty := by cases h <;> rfl
theorem set_nats (l : List Nat) (i p : Nat) : (l.map fun n : Nat => V.int (n : Int)).set i (V.int (p : Int)) = (l.set i p).map fun n : Nat => V.int (n : Int) := by rw [List.map_set]
theorem scPutw : FnScope ["state", "rank", "work", "line"] ["state", "rank", "work"] (d_put_work).scope := ⟨rfl, rfl, rfl, by decide +kernel, rfl, by decide +kernel, by decide +kernel⟩
def spPutw (K : PySem.W.Frag) (c : CC) : Sp := fun vs H Q _ => ∃ (L : Ly) (M : Mach) (i : Nat) (w : Wk) (vw : V), vs = [.ref (L.ad .st), .int (i : Int), vw] ∧ MR K c H L M ∧ i < M.queues.length ∧ RWk K c H vw w ∧ M.ticks < 1000000 ∧
  ∀ H' L', MR K c H' L' (putM M i w) → Stp H L H' L' → Q .non H'
theorem ok_putw {f : Addr} {fd : FuncData} (F : FnDd K d_put_work f fd) (X : MC K c) : FnOk P w K mg pB CX0 1 f fd ["state", "rank", "work"] (spPutw K c) := by
  refine F.ok scPutw (fun vs H Q E h => ?_) (fun cdv A outer s0 H vs Q E hr h => ?_)
  · obtain ⟨L, M, i, w, vw, rfl, _⟩ := h
    rfl
  · obtain ⟨L, M, i, w, vw, rfl, m, hi, hw, ht, k⟩ := h
    have nd := scPutw.nd
    refine ⟨_, pss_cons (ps_set (i := 3) nd rfl (Or.inl rfl) (pe_ix ix_list (pe_fld (pv 0) (by rfl)) (pv 1) (fun _ _ => rfl))) (pss_cons (ps_if (pt_not (pt_truth (pv 3) (by intro _; rfl))) (pss_one (ps_asg (pe_fld (pv 0) (by rfl)) (pg_sub (pe_fld (pv 0) (by rfl)) (pv 1) set_list))) pss_nil)
      (pss_one (ps_expr (pe_bm PySem.F.plainAttrs_list PySem.F.slot_list_append PySem.F.type_list_append mt_append (pv 3) (pa_cons (pv 2) pa_nil))))), ?_⟩
    obtain ⟨us, hl, el, pl, ll⟩ := m.atLine hi
    refine asg_n ⟨_, rfl, L.ad .st, c.st, L.dx, _, .ref (L.ad .queues), rfl, m.atS, X.st.c, X.st.n _ (by decide), rfl, _, rfl, L.ad .queues, _, _, .ref (L.ad (.line i)), rfl, rfl, SqL.of m.atQ, atI_nat (q_at hi), ?_⟩
    have hse := m.atL rfl m.ar.since
    have b1 := m.ar.bd
    refine gmid_of (fun σ' H' => (σ'[2]? = some (some vw) ∧ σ'[3]? = some (some (.ref (L.ad (.line i))))) ∧ ∃ L', MR K c H' L' { M with since := if (M.queues.getD i []).isEmpty = true then M.since.set i M.picks else M.since } ∧ Stp H L H' L' ∧ L'.ad = L.ad) (fun N hN => ?_) (fun σ' H' hm => ?_)
    · have ep := isEmpty_paired pl
      refine ⟨_, rfl, !us.isEmpty, .inl ⟨_, SqL.of hl, rfl⟩, ?_⟩
      cases hq : us.isEmpty with
      | true =>
        refine iteT ?_
        refine ⟨_, rfl, L.ad .st, c.st, L.dx, _, .int (M.picks : Int), rfl, m.atS, X.st.c, X.st.n _ (by decide), rfl, ?_⟩
        refine ⟨_, rfl, L.ad .st, c.st, L.dx, _, .ref (L.ad .since), rfl, m.atS, X.st.c, X.st.n _ (by decide), rfl, _, rfl, L.ad .since, _, _, i, rfl, rfl, hse, ixN_lt (by rw [List.length_map]; omega), ?_⟩
        rw [set_nats]
        refine hN _ _ ⟨⟨rfl, rfl⟩, _, ?_, (Stp.refl H L).put m.cr (m.ar.fx .since rfl), rfl⟩
        rw [← ep, hq, if_pos rfl]
        exact m.sinceS _ (by rw [List.length_set])
      | false =>
        refine iteF ?_
        refine hN _ _ ⟨⟨rfl, rfl⟩, L, ?_, Stp.refl H L, rfl⟩
        rw [← ep, hq, if_neg (by decide)]
        exact m
    · obtain ⟨⟨g2, g3⟩, L', m', s', ea⟩ := hm
      obtain ⟨us', hl', el', pl', ll'⟩ := m'.atLine (i := i) hi
      have hw' := hw.kept (s'.kept m.cr)
      rw [← ea] at g3
      refine ⟨_, g3, .inl ⟨rfl, _, SqL.of hl'⟩, _, g2, L'.ad (.line i), _, _, rfl, rfl, hl', ?_, ?_⟩
      · rw [Paired.length pl', sizeLine_eq]
        have ll' : (M.queues.getD i []).length ≤ M.ticks := ll'
        show (M.queues.getD i []).length < _
        omega
      · exact k _ _ (m'.lineS 1 i (us' ++ [vw]) (M.queues.getD i [] ++ [w]) hi (Paired.snoc hw' pl') (by rw [List.length_append]; show _ + 1 ≤ M.ticks + 1; omega)) (s'.put m'.cr (m'.ar.lines i _ (List.getElem?_eq_getElem hi)).1)
end
end My

set_option Elab.async false
set_option linter.all false
set_option maxRecDepth 100000
set_option maxHeartbeats 4000000
namespace My
open PySem L2 PyProof.Rows
section
variable {P : Program} {w : World} {K : PySem.W.Frag} {mg : Str → Option Value} {pB : Heap}
def setupG (pa ca D : Addr) (fl dp : Int) : List (Str × V) := [("patience", .ref pa), ("flood", .int fl), ("deep", .int dp), ("calls", .ref ca), ("patient", .ref D), ("text", .non)]
def spSetupG (K : PySem.W.Frag) (C : Addr) : Sp := fun vs H Q _ => ∃ (a dx pa ca : Addr) (row : Row) (fl dp : Int), vs = [.ref a, .ref pa, .int fl, .int dp, .ref ca] ∧ H a = some (.ins C dx []) ∧ H pa = some (.tup (row.map vO)) ∧ row.length ≤ 100 ∧
  ∀ (D : Addr) (ps : List Addr) (H' : Hp), Bd C dx a H (setupG pa ca D fl dp) [(D, .lst (ps.map V.ref))] H' → Paired (IsPat H') ps (pats row row.length) → Q .non H'
theorem ok_setupG {C f : Addr} {fd : FuncData} (F : FnDd K d_Setup_init f fd) (hC : ClsF K C fSetup) (mE : mg "enumerate" = none) : FnOk P w K mg pB CX0 1 f fd ["self", "patience", "flood", "deep", "calls"] (spSetupG K C) := by
  refine F.ok scSetup (fun vs H Q E h => ?_) (fun cdv A outer s0 H vs Q E hr h => ?_)
  · obtain ⟨a, dx, pa, ca, row, fl, dp, rfl, _⟩ := h
    rfl
  · obtain ⟨a, dx, pa, ca, row, fl, dp, rfl, e, hpa, hl, k⟩ := h
    have nd := scSetup.nd
    have N : ∀ f ∈ fSetup, NoAttr K C f := hC.n
    refine ⟨_, pss_cons (ps_fld (pv 0) (pv 1) (by rfl)) (pss_cons (ps_fld (pv 0) (pv 2) (by rfl)) (pss_cons (ps_fld (pv 0) (pv 3) (by rfl)) (pss_cons (ps_fld (pv 0) (pv 4) (by rfl))
      (pss_cons (ps_fld (pv 0) (pe_lc (own := [("rank", 5), ("bears", 6)]) (g := gTup K 2 (gCons (gName 5) (gCons (gName 6) gNil))) (tt := tB (tNotN (tVar 6))) (te := tTup (tCons (tVar 5) (tCons (tVar 6) tNil))) rfl nd (pi_ex rfl mE (pv 1))
          (blkOk_by (N := nSetup) (sc := (d_Setup_init).scope) (by decide +kernel)) (fun _ _ _ _ _ => pg_tup rfl (pgs_cons (pg_name (i := 5) nd rfl (Or.inl rfl) (Or.inr rfl)) (pgs_cons (pg_name (i := 6) nd rfl (Or.inl rfl) (Or.inr rfl)) pgs_nil)))
          (fun _ _ _ _ _ => pts_one (pt_cmp (pc_notN (pv 6)))) (fun _ _ _ _ _ => pe_tup (pa_cons (pv 5) (pa_cons (pv 6) pa_nil)))) (by rfl))
      (pss_one (ps_fld (pv 0) pe_non (by rfl))))))), ?_⟩
    refine bd_vs (fs0 := fSetup) 0 (Bd.start e) rfl (fun Q h => ⟨_, rfl, h⟩) hC.c (N _ (by decide)) rfl (by decide +kernel) (by decide) rfl fun H1 B en => ?_
    refine bd_vs (fs0 := fSetup) 1 B rfl (fun Q h => ⟨_, rfl, h⟩) hC.c (N _ (by decide)) en (by decide +kernel) (by decide) rfl fun H1 B en => ?_
    refine bd_vs (fs0 := fSetup) 2 B rfl (fun Q h => ⟨_, rfl, h⟩) hC.c (N _ (by decide)) en (by decide +kernel) (by decide) rfl fun H1 B en => ?_
    refine bd_vs (fs0 := fSetup) 3 B rfl (fun Q h => ⟨_, rfl, h⟩) hC.c (N _ (by decide)) en (by decide +kernel) (by decide) rfl fun H1 B en => ?_
    refine fld_of ?_
    have hpa1 : H1 pa = some (.tup (row.map vO)) := B.ka _ _ hpa (ne_of hpa e (by intro z; cases z))
    refine ⟨_, rfl, false, pa, row.map vO, rfl, SqT.of hpa1, fun D hD => ?_⟩
    refine lc_it walk_ex (fun i H2 => ∃ ps, Same H1 H2 ∧ H2 D = some (.lst (ps.map V.ref)) ∧ ps.length ≤ i ∧ Paired (IsPat H2) ps (pats row i)) ?_ ?_ ?_ ?_
    · exact ⟨[], Same.new (Same.refl _) hD, upd_same, Nat.le_refl _, .nil⟩
    · rintro i H2 _ ⟨ps, s2, _⟩
      exact SqT.of (s2 _ _ hpa1)
    · rintro i v H2 H3 hi ⟨ps, s2, c2, l2, p2⟩ ⟨T, x, rfl, hT, rfl, hx⟩
      obtain ⟨ex, hlt⟩ := row_at hx
      subst ex
      have s3 : Same H2 (L2.upd H2 T (.tup [.int (i : Nat), vO (at' row i)])) := Same.new (Same.refl _) hT
      have ct : (L2.upd H2 T (.tup [.int (i : Nat), vO (at' row i)])) T = some (.tup [.int (i : Nat), vO (at' row i)]) := upd_same
      generalize L2.upd H2 T (.tup [.int (i : Nat), vO (at' row i)]) = H4 at s3 ct ⊢
      refine ⟨T, _, rfl, SqT.of ct, rfl, _, _, rfl, _, _, rfl, rfl, rfl, _, rfl, _, rfl, ?_⟩
      cases hp : at' row i with
      | none =>
        refine iteF ⟨ps, s2.trans s3, s3 _ _ c2, Nat.le_succ_of_le l2, ?_⟩
        rw [pats, hp]
        show Paired _ ps (pats row i ++ [])
        rw [List.append_nil]
        exact pats_to p2 fun c xs z => s3 _ _ z
      | some b =>
        refine iteT ⟨_, rfl, _, rfl, by show 2 ≤ sizeLine; decide, fun U hU => ?_⟩
        have s5 := s3.trans (Same.new (o := .tup [.int (i : Nat), vO (some b)]) (Same.refl H4) hU)
        have hDU : D ≠ U := ne_of_none (s3 _ _ c2) hU
        have cD := Same.new (o := .tup [.int (i : Nat), vO (some b)]) (Same.refl H4) hU _ _ (s3 _ _ c2)
        have cU : (L2.upd H4 U (.tup [.int (i : Nat), vO (some b)])) U = some (.tup [.int (i : Nat), vO (some b)]) := upd_same
        generalize L2.upd H4 U (.tup [.int (i : Nat), vO (some b)]) = H5 at s5 cD cU ⊢
        have b5 : Paired (IsPat H5) (ps ++ [U]) (pats row (i + 1)) := by
          rw [pats, hp]
          exact paired_snoc (F := IsPat H5) (y := ((i : Int), b)) cU (pats_to p2 fun c xs z => s5 _ _ z)
        refine ⟨_, cD, ?_, ps ++ [U], ?_, by rw [upd_same, List.map_append]; rfl, by rw [List.length_append]; show ps.length + 1 ≤ i + 1; omega, ?_⟩
        · rw [List.length_map]
          exact Nat.lt_of_le_of_lt (show ps.length ≤ 100 by rw [List.length_map] at hi; omega) (by decide)
        · intro c o e
          rw [upd_ne (ne_of_none e hD)]
          exact s5 _ _ (s2 _ _ e)
        · exact pats_to b5 fun c xs z => by
            rw [upd_ne (ne_of z cD (by intro z; cases z))]
            exact z
    · rintro H2 ⟨ps, s2, c2, _, p2⟩
      rw [List.length_map] at p2
      have B2 := B.put (f := "patient") hD (Ka.of s2) c2
      refine ⟨_, rfl, a, C, dx, _, rfl, s2 _ _ B.at_, hC.c, N _ (by decide), (show 4 < 1000 by decide), ?_⟩
      rw [putF_t fSetup 4 rfl (by decide +kernel)]
      refine ⟨_, rfl, a, C, dx, _, rfl, B2.at_, hC.c, N _ (by decide), (show 5 < 1000 by decide), ?_⟩
      rw [putF_t fSetup 5 rfl (by decide +kernel)]
      exact k D ps _ B2.val (pats_upd (pats_upd p2 (s2 _ _ B.at_)) B2.at_)
end
end My

set_option Elab.async false
set_option linter.all false
set_option maxRecDepth 100000
set_option maxHeartbeats 4000000
namespace My
open PySem L2 PyProof.Rows
/-! ### a layout from a list -/
def lyOf (l : List (Tag × Addr × HO)) (dx bdx su sdx : Addr) (sh : V) : Ly where
  ad := fun t => ((l.find? fun q => decide (q.1 = t)).map (·.2.1)).getD su
  role := fun a => (l.find? fun q => decide (q.2.1 = a)).map (·.1)
  ob := fun t => ((l.find? fun q => decide (q.1 = t)).map (·.2.2)).getD (.tup [])
  live := fun t => ∃ q, l.find? (fun q => decide (q.1 = t)) = some q
  dx := dx
  bdx := bdx
  su := su
  sdx := sdx
  sh := sh
  ask := .non
theorem find_mem {α β : Type} [DecidableEq β] (f : α → β) : ∀ {l : List α} {q : α}, (l.map f).Nodup → q ∈ l → l.find? (fun x => decide (f x = f q)) = some q
  | [], _, _, h => nomatch h
  | p :: r, q, n, h => by
    rw [List.map_cons, List.nodup_cons] at n
    rcases List.mem_cons.mp h with rfl | h
    · rw [List.find?_cons_of_pos (by simp)]
    · rw [List.find?_cons_of_neg, find_mem f n.2 h]
      simp only [decide_eq_true_eq]
      exact fun z => n.1 (z ▸ List.mem_map_of_mem h)
theorem lyOf_cr {c : CC} {H : Hp} {l : List (Tag × Addr × HO)} {dx bdx su sdx : Addr} {sh : V} (n2 : (l.map (·.2.1)).Nodup) (h : ∀ q ∈ l, H q.2.1 = some q.2.2 ∧ ¬ Fro c q.2.2) : CR c H (lyOf l dx bdx su sdx sh) where
  at_ := fun t ⟨q, e⟩ => by
    show H (((l.find? fun q => decide (q.1 = t)).map (·.2.1)).getD su) = some (((l.find? fun q => decide (q.1 = t)).map (·.2.2)).getD (.tup []))
    rw [e]
    exact (h q (List.mem_of_find?_eq_some e)).1
  ro := fun t ⟨q, e⟩ => by
    show (l.find? fun x => decide (x.2.1 = ((l.find? fun q => decide (q.1 = t)).map (·.2.1)).getD su)).map (·.1) = some t
    rw [e]
    show (l.find? fun x => decide (x.2.1 = q.2.1)).map (·.1) = some t
    rw [find_mem (fun x : Tag × Addr × HO => x.2.1) n2 (List.mem_of_find?_eq_some e)]
    have := List.find?_some e
    exact congrArg some (of_decide_eq_true this)
  kind := fun a ha => by
    cases e : l.find? fun q => decide (q.2.1 = a) with
    | none =>
      refine absurd ?_ ha
      show (l.find? fun q => decide (q.2.1 = a)).map (·.1) = none
      rw [e]; rfl
    | some q =>
      have h1 := List.find?_some e
      have := of_decide_eq_true h1
      subst this
      exact ⟨q.2.2, h q (List.mem_of_find?_eq_some e)⟩
theorem lyOf_role {l : List (Tag × Addr × HO)} {dx bdx su sdx : Addr} {sh : V} {a : Addr} (h : (lyOf l dx bdx su sdx sh).role a ≠ none) : a ∈ l.map (·.2.1) := by
  cases e : l.find? fun q => decide (q.2.1 = a) with
  | none =>
    refine absurd ?_ h
    show (l.find? fun q => decide (q.2.1 = a)).map (·.1) = none
    rw [e]; rfl
  | some q =>
    have h1 := List.find?_some e
    have := of_decide_eq_true h1
    subst this
    exact List.mem_map_of_mem (List.mem_of_find?_eq_some e)
/-- the lines, none of them with a work -/
def lnL (lanes : List Addr) : List (Tag × Addr × HO) := lanes.zipIdx.map fun q => (.line q.2, q.1, .lst [])
theorem lnL_ad (lanes : List Addr) : (lnL lanes).map (·.2.1) = lanes := by
  unfold lnL
  rw [List.map_map]
  show lanes.zipIdx.map Prod.fst = lanes
  exact List.zipIdx_map_fst 0 lanes
theorem lnL_find {lanes : List Addr} {i : Nat} {b : Addr} (h : lanes[i]? = some b) : (lnL lanes).find? (fun q => decide (q.1 = .line i)) = some (.line i, b, .lst []) := by
  have hm : (Tag.line i, b, HO.lst []) ∈ lnL lanes := by
    unfold lnL
    refine List.mem_map.mpr ⟨(b, i), ?_, rfl⟩
    rw [List.mk_mem_zipIdx_iff_getElem?]
    exact h
  have hn : ((lnL lanes).map (·.1)).Nodup := by
    unfold lnL
    rw [List.map_map]
    have : (lanes.zipIdx.map ((fun q : Tag × Addr × HO => q.1) ∘ fun q : Addr × Nat => (Tag.line q.2, q.1, HO.lst []))) = (lanes.zipIdx.map Prod.snd).map Tag.line := by rw [List.map_map]; rfl
    rw [this, List.zipIdx_map_snd, List.nodup_iff_pairwise_ne]
    refine List.Pairwise.map _ (fun a b (hab : a ≠ b) z => hab (Tag.line.inj z)) ?_
    rw [← List.nodup_iff_pairwise_ne]
    exact List.nodup_range'
  exact find_mem (fun q : Tag × Addr × HO => q.1) hn hm
/-- nothing stands in a loop -/
def mach0 (fl dp : Nat) (row : Row) : Mach where
  flood := fl
  deep := dp
  bears := row
  clock := 0
  numbers := 0
  picks := 0
  since := List.replicate row.length 0
  queues := List.replicate row.length []
  events := []
  micros := []
  timers := []
  idles := []
  soonest := none
  opened := []
  done := 0
  flooded := false
  asking := none
  busy := false
  fates := []
  named := []
  takers := []
  taken := []
  untold := []
  gathers := []
  stories := []
  waits := []
  ahead := []
  ticks := 0
theorem pats_eq {row : Row} : ∀ n, n ≤ row.length → ((row.zipIdx).take n).filterMap (fun x => x.1.map fun b => PyData.tuple [.int (x.2 : Int), .int b]) = (pats row n).map fun q => PyData.tuple [.int q.1, .int q.2]
  | 0, _ => rfl
  | n + 1, h => by
    have hx : row.zipIdx[n]? = some (row[n]'(by omega), n) := by
      rw [List.getElem?_zipIdx, List.getElem?_eq_getElem (by omega)]; simp
    rw [take_snoc hx, List.filterMap_append, pats_eq n (by omega), pats, List.map_append]
    congr 1
    have : at' row n = row[n]'(by omega) := by unfold at'; rw [List.getD_eq_getElem?_getD, List.getElem?_eq_getElem (by omega)]; rfl
    rw [this]
    cases row[n]'(by omega) <;> rfl
theorem patsM_eq (row : Row) : patsM row = (pats row row.length).map fun q => PyData.tuple [.int q.1, .int q.2] := by
  rw [← pats_eq row.length (Nat.le_refl _), List.take_of_length_le (by rw [List.length_zipIdx]; exact Nat.le_refl _)]
  rfl
theorem pats_dt {K : PySem.W.Frag} {H : Hp} : ∀ {ps : List Addr} {qs : List (Int × Int)}, Paired (IsPat H) ps qs → DtAll K H (ps.map V.ref) (qs.map fun q => PyData.tuple [.int q.1, .int q.2])
  | _, _, .nil => .nil
  | _, _, .cons h t => .cons (Dt.new h (.cons (.int _) (.cons (.int _) .nil))) (pats_dt t)
theorem row_dt {K : PySem.W.Frag} {H : Hp} : ∀ row : Row, DtAll K H (row.map vO) (row.map fun x => match x with | none => PyData.none | some b => .int b)
  | [] => .nil
  | none :: r => .cons .non (row_dt r)
  | some b :: r => .cons (.int b) (row_dt r)
end My

set_option Elab.async false
set_option linter.all false
set_option maxRecDepth 100000
set_option maxHeartbeats 4000000
namespace My
open PySem L2 PyProof.Rows
/-! ### the first layout -/
structure A0 where
  pt : Addr
  ca : Addr
  bo : Addr
  bdx : Addr
  p0 : Addr
  p1 : Addr
  p2 : Addr
  p3 : Addr
  p4 : Addr
  p5 : Addr
  p6 : Addr
  p7 : Addr
  p8 : Addr
  D : Addr
  sn : Addr
  a : Addr
  dx : Addr
  ev : Addr
  m : Addr
  t : Addr
  i : Addr
  o : Addr
  su : Addr
  sdx : Addr
  sh : V
  lanes : List Addr
  ps : List Addr
def A0.bf (x : A0) : List (Str × V) := [("fates", .ref x.p0), ("named", .ref x.p1), ("takers", .ref x.p2), ("taken", .ref x.p3), ("untold", .ref x.p4), ("gathers", .ref x.p5), ("stories", .ref x.p6), ("waits", .ref x.p7), ("ahead", .ref x.p8), ("shared", .bl false), ("text", .non)]
def A0.sf (x : A0) : List (Str × V) := (SF.mk (.ref x.su) (.ref x.bo) 0 x.sn x.D (.int 0) 0 x.ev x.sh (.ref x.m) (.ref x.t) (.ref x.i) (.ref x.o)).fs
def A0.l1 (x : A0) : List (Tag × Addr × HO) := [(.pat, x.pt, .lst (x.ps.map V.ref)), (.calls, x.ca, .dK [])]
def A0.l2 (x : A0) (c : CC) : List (Tag × Addr × HO) := [(.bk, x.bo, .ins c.bk x.bdx x.bf), (.fates, x.p0, .lst []), (.named, x.p1, .dK []), (.takers, x.p2, .dK []), (.taken, x.p3, .dK []), (.untold, x.p4, .dK []), (.gathers, x.p5, .dK []), (.stories, x.p6, .dK []), (.waits, x.p7, .dK []), (.ahead, x.p8, .dK [])]
def A0.l3 (x : A0) : List (Tag × Addr × HO) := [(.queues, x.D, .lst (x.lanes.map V.ref))]
def A0.l4 (x : A0) (n : Nat) : List (Tag × Addr × HO) := [(.since, x.sn, .lst ((List.replicate n 0).map fun n : Nat => V.int (n : Int)))]
def A0.l5 (x : A0) (c : CC) : List (Tag × Addr × HO) := [(.st, x.a, .ins c.st x.dx x.sf), (.events, x.ev, .lst []), (.micros, x.m, .lst []), (.timers, x.t, .lst []), (.idles, x.i, .lst []), (.opened, x.o, .lst [])]
def A0.l (x : A0) (c : CC) (n : Nat) : List (Tag × Addr × HO) := [(.pat, x.pt, .lst (x.ps.map V.ref)), (.calls, x.ca, .dK []),
  (.bk, x.bo, .ins c.bk x.bdx x.bf), (.fates, x.p0, .lst []), (.named, x.p1, .dK []), (.takers, x.p2, .dK []), (.taken, x.p3, .dK []), (.untold, x.p4, .dK []), (.gathers, x.p5, .dK []), (.stories, x.p6, .dK []), (.waits, x.p7, .dK []), (.ahead, x.p8, .dK []),
  (.queues, x.D, .lst (x.lanes.map V.ref)), (.since, x.sn, .lst ((List.replicate n 0).map fun n : Nat => V.int (n : Int))),
  (.st, x.a, .ins c.st x.dx x.sf), (.events, x.ev, .lst []), (.micros, x.m, .lst []), (.timers, x.t, .lst []), (.idles, x.i, .lst []), (.opened, x.o, .lst [])] ++ lnL x.lanes
theorem A0.l_eq (x : A0) (c : CC) (n : Nat) : x.l c n = x.l1 ++ (x.l2 c ++ (x.l3 ++ (x.l4 n ++ (x.l5 c ++ lnL x.lanes)))) := rfl
def A0.L (x : A0) (c : CC) (n : Nat) : Ly := lyOf (x.l c n) x.dx x.bdx x.su x.sdx x.sh
theorem A0.line {x : A0} {c : CC} {n i : Nat} {b : Addr} (h : x.lanes[i]? = some b) : (x.l c n).find? (fun q => decide (q.1 = .line i)) = some (.line i, b, .lst []) := by
  rw [← lnL_find h]
  rfl
theorem A0.fixd {x : A0} {c : CC} {n : Nat} {t : Tag} (h : t.fixed = true) : ∃ q, (x.l c n).find? (fun q => decide (q.1 = t)) = some q := by
  cases t <;> first | (cases h; done) | exact ⟨_, rfl⟩
theorem mr0 {K : PySem.W.Frag} {c : CC} {H : Hp} {x : A0} {fl dp : Nat} {row : Row} {pa : Addr} (nC : CN c) (hall : ∀ q ∈ x.l c row.length, H q.2.1 = some q.2.2) (nd : ((x.l c row.length).map (·.2.1)).Nodup)
    (hsu : H x.su = some (.ins c.su x.sdx (setupG pa x.ca x.pt (fl : Int) (dp : Int)))) (hpa : H pa = some (.tup (row.map vO))) (hpp : Paired (IsPat H) x.ps (pats row row.length)) (l6 : row.length ≤ 6) (hl : x.lanes.length = row.length) : MR K c H (x.L c row.length) (mach0 fl dp row) where
  cr := lyOf_cr nd fun q hq => ⟨hall q hq, by
    rcases List.mem_append.mp hq with h | h
    · simp only [List.mem_cons, List.mem_nil_iff, or_false] at h
      rcases h with rfl | rfl | rfl | rfl | rfl | rfl | rfl | rfl | rfl | rfl | rfl | rfl | rfl | rfl | rfl | rfl | rfl | rfl | rfl | rfl
      all_goals first | exact nf_l | exact nf_d | exact nf_bk nC | exact nf_st nC
    · obtain ⟨q, _, rfl⟩ := List.mem_map.mp h
      exact nf_l⟩
  ar := {
    fx := fun t ht => A0.fixd ht
    st := rfl
    bk := rfl
    su := ⟨.ref pa, hsu, .tup (SqT.of hpa) (row_dt row)⟩
    pat := ⟨_, rfl, by rw [show (mach0 fl dp row).bears = row from rfl, patsM_eq]; exact pats_dt hpp⟩
    calls := rfl
    ask := rfl
    since := rfl
    queues := by
      show HO.lst (x.lanes.map V.ref) = .lst ((List.range (List.replicate row.length ([] : List Wk)).length).map fun i => V.ref ((x.L c row.length).ad (.line i)))
      rw [List.length_replicate, ← hl]
      congr 1
      apply List.ext_getElem?
      intro i
      rw [List.getElem?_map, List.getElem?_map]
      by_cases h : i < x.lanes.length
      · rw [List.getElem?_eq_getElem h, List.getElem?_range h]
        show some (V.ref x.lanes[i]) = some (V.ref ((((x.l c row.length).find? fun q => decide (q.1 = .line i)).map (·.2.1)).getD x.su))
        rw [A0.line (List.getElem?_eq_getElem h)]
        rfl
      · rw [List.getElem?_eq_none (by omega), List.getElem?_eq_none (by rw [List.length_range]; omega)]
        rfl
    lines := fun i ws e => by
      have e : (List.replicate row.length ([] : List Wk))[i]? = some ws := e
      have hi : i < row.length := by have := (List.getElem?_eq_some_iff.mp e).1; rwa [List.length_replicate] at this
      have hw := (List.mem_replicate.mp (List.mem_of_getElem? e)).2
      subst hw
      have h2 := A0.line (c := c) (n := row.length) (List.getElem?_eq_getElem (show i < x.lanes.length by omega))
      refine ⟨⟨_, h2⟩, [], ?_, .nil, Nat.le_refl _⟩
      show (((x.l c row.length).find? fun q => decide (q.1 = .line i)).map (·.2.2)).getD (.tup []) = _
      rw [h2]
      rfl
    events := ⟨_, rfl, .nil⟩
    micros := ⟨_, rfl, .nil⟩
    timers := ⟨_, rfl, .nil⟩
    idles := ⟨_, rfl, .nil⟩
    plans := fun p hp => by cases hp
    opened := ⟨_, rfl, .nil⟩
    fates := ⟨_, rfl, .nil⟩
    named := rfl
    takers := rfl
    tls := fun k ts e => by cases e
    taken := rfl
    untold := rfl
    gathers := ⟨_, rfl, .nil⟩
    stories := rfl
    waits := rfl
    ahead := rfl
    bd := ⟨by show (List.replicate row.length ([] : List Wk)).length ≤ 10; rw [List.length_replicate]; omega, by show (List.replicate row.length 0).length = (List.replicate row.length ([] : List Wk)).length; rw [List.length_replicate, List.length_replicate], Nat.le_refl _, Nat.le_refl _, Nat.le_refl _, Nat.le_refl _, Nat.le_refl _, Nat.le_refl _⟩
    bd2 := ⟨Nat.le_refl _, Nat.le_refl _, Nat.le_refl _, Nat.le_refl _, Nat.le_refl _, Nat.le_refl _, Nat.le_refl _, Nat.le_refl _⟩ }
end My

set_option Elab.async false
set_option linter.all false
set_option maxRecDepth 100000
set_option maxHeartbeats 4000000
namespace My
open PySem L2 PyProof.Rows
theorem nodup_layer {xs ys : List Addr} {H : Hp} (h1 : xs.Nodup) (h2 : ys.Nodup) (h3 : ∀ a ∈ xs, H a = none) (h4 : ∀ a ∈ ys, H a ≠ none) : (xs ++ ys).Nodup := by
  rw [List.nodup_append]
  exact ⟨h1, h2, fun a ha b hb z => h4 b hb (z ▸ h3 a ha)⟩
section
variable {P : Program} {w : World} {K : PySem.W.Frag} {mg : Str → Option Value} {pB : Heap} {c : CC}
theorem scFirst : FnScope ["setup", "ranks", "rank"] ["setup"] (d_first_state).scope := ⟨rfl, rfl, rfl, by decide +kernel, rfl, by decide +kernel, by decide +kernel⟩
theorem flat0 (n : Nat) : (List.replicate n [V.int 0]).flatten = (List.replicate n 0).map fun n : Nat => V.int (n : Int) := by
  induction n with
  | zero => rfl
  | succ n ih => rw [List.replicate_succ, List.flatten_cons, ih, List.replicate_succ]; rfl
def spFirstG (K : PySem.W.Frag) (c : CC) : Sp := fun vs H Q _ => ∃ (su sdx pa ca pt : Addr) (row : Row) (ps : List Addr) (fl dp : Nat), vs = [.ref su] ∧ H su = some (.ins c.su sdx (setupG pa ca pt (fl : Int) (dp : Int))) ∧ H pa = some (.tup (row.map vO)) ∧ H pt = some (.lst (ps.map V.ref)) ∧ H ca = some (.dK []) ∧ Paired (IsPat H) ps (pats row row.length) ∧ 1 ≤ row.length ∧ row.length ≤ 6 ∧
  ∀ (L : Ly) (H' : Hp), Same H H' → MR K c H' L (mach0 fl dp row) → L.su = su → (∀ e, L.role e ≠ none → e = pt ∨ e = ca ∨ H e = none) → Q (.ref (L.ad .st)) H'
theorem ok_firstG {f fS fB : Addr} {fd dS dB : FuncData} (F : FnDd K d_first_state f fd) (X : MC K c) (GS : FnOk P w K mg pB CX0 1 fS dS nState (spState c.st)) (MS : Mkc K mg "State" c.st fS dS nState)
    (GB : FnOk P w K mg pB CX0 1 fB dB ["self"] (spBook c.bk)) (MB : Mkc K mg "Book" c.bk fB dB ["self"]) (mLen : mg "len" = none) (mR : mg "range" = none) : FnOk P w K mg pB CX0 3 f fd ["setup"] (spFirstG K c) := by
  refine F.ok scFirst (fun vs H Q E h => ?_) (fun cdv A outer s0 H vs Q E hr h => ?_)
  · obtain ⟨su, sdx, pa, ca, pt, row, ps, fl, dp, rfl, _⟩ := h
    rfl
  · obtain ⟨su, sdx, pa, ca, pt, row, ps, fl, dp, rfl, hsu, hpa, hpt, hca, hpp, l1, l6, k⟩ := h
    have nd := scFirst.nd
    refine ⟨_, pss_cons (ps_set (i := 1) nd rfl (Or.inl rfl) (pe_callB call_len_seq (by rfl) mLen PySem.boot_len (pa_cons (pe_fld (pv 0) (by rfl)) pa_nil)))
      (pss_one (ps_ret (pe_make MS.k GS hr (by rfl) MS.m MS.b .nil pass0 (pa_cons (pv 0) (pa_cons (pe_make0 MB.k GB hr (by rfl) MB.m MB.b .nil pass0)
        (pa_cons (pe_lc (own := [("rank", 2)]) (g := gName 2) (tt := tYes) (te := tLst tNil) rfl nd (pi_range1 rfl mR (pa_cons (pv 1) pa_nil)) (blkOk_by (N := ["setup", "ranks", "rank"]) (sc := (d_first_state).scope) (by decide +kernel)) (fun _ _ _ _ _ => pg_name (i := 2) nd rfl (Or.inl rfl) (Or.inr rfl)) (fun _ _ _ _ _ => pts_nil) (fun _ _ _ _ _ => pe_lst pa_nil))
        (pa_cons (pe_op op_rep (pe_lst (pa_cons pe_int pa_nil)) (pv 1)) (pa_cons pe_int (pa_cons pe_int (pa_cons pe_int pa_nil)))))))))), ?_⟩
    refine asg_n ⟨_, rfl, su, c.su, sdx, _, .ref pa, rfl, hsu, X.su.c, X.su.n _ (by decide), rfl, pa, _, rfl, .inr (SqT.of hpa), ?_⟩
    refine ⟨_, rfl, fun bo bdx hbo hbdx hne => ?_⟩
    have s1 : Same H (L2.upd (L2.upd H bdx (.own bo)) bo (.ins c.bk bdx [])) := Same.new (Same.new (Same.refl _) hbdx) (by rw [upd_ne hne.symm]; exact hbo)
    refine ⟨bo, bdx, rfl, upd_same, fun p0 p1 p2 p3 p4 p5 p6 p7 p8 H2 B => ⟨rfl, ?_⟩⟩
    have s2 : Same H H2 := fun e o h => B.ka e o (s1 e o h) (ne_of_none h hbo)
    have n1 : ∀ {e : Addr}, (L2.upd (L2.upd H bdx (.own bo)) bo (.ins c.bk bdx [])) e = none → H e = none := fun {e} h => by
      cases z : H e with
      | none => rfl
      | some o => rw [s1 _ _ z] at h; cases h
    refine ⟨_, rfl, _, rfl, by rw [List.length_map]; omega, by rw [List.length_map]; omega, fun D hD => ?_⟩
    refine lc_range (lo := 0) (n := ((((row.map vO).length : Nat) : Int)).toNat) (fun i H3 => ∃ lanes : List Addr, Same H2 H3 ∧ H3 D = some (.lst (lanes.map V.ref)) ∧ lanes.length = i ∧ (∀ b ∈ lanes, H3 b = some (.lst []) ∧ H2 b = none ∧ b ≠ D) ∧ lanes.Nodup) ?_ ?_ ?_
    · exact ⟨[], Same.new (Same.refl _) hD, upd_same, rfl, (fun _ h => nomatch h), List.nodup_nil⟩
    · rintro i H3 hi ⟨lanes, s3, c3, n3, f3, d3⟩
      refine ⟨rfl, yes_of (iteT ⟨Nat.zero_le _, fun b hb => ?_⟩)⟩
      have hbD : b ≠ D := (ne_of_none c3 hb).symm
      refine ⟨lanes.map V.ref, by rw [upd_ne hbD.symm]; exact c3, ?_, lanes ++ [b], ?_, by rw [upd_same, List.map_append]; rfl, by rw [List.length_append, n3]; rfl, ?_, ?_⟩
      · rw [List.length_map, n3]
        rw [List.length_map] at hi
        exact Nat.lt_of_le_of_lt (show i ≤ 6 by omega) (by decide)
      · intro e o h
        rw [upd_ne (ne_of_none h hD), upd_ne (ne_of_none (s3 _ _ h) hb)]
        exact s3 _ _ h
      · intro e he
        rcases List.mem_append.mp he with he | he
        · obtain ⟨h1, h2, h3⟩ := f3 e he
          exact ⟨by rw [upd_ne h3, upd_ne (ne_of_none h1 hb)]; exact h1, h2, h3⟩
        · rw [List.mem_singleton.mp he]
          refine ⟨by rw [upd_ne hbD]; exact upd_same, ?_, hbD⟩
          cases z : H2 b with
          | none => rfl
          | some o => rw [s3 _ _ z] at hb; cases hb
      · rw [List.nodup_append]
        refine ⟨d3, by simp, fun y hy z hz => ?_⟩
        rw [List.mem_singleton.mp hz]
        exact ne_of_none (f3 y hy).1 hb
    · rintro H3 ⟨lanes, s3, c3, n3, f3, d3⟩
      rw [List.length_map, show ((row.length : Nat) : Int).toNat = row.length by omega] at n3
      have hD2 : H2 D = none := hD
      refine ⟨by show 1 ≤ sizeLine; decide, fun u hu => ⟨_, rfl, u, _, [V.int 0], rfl, rfl, upd_same, by rw [List.length_map]; omega, by rw [List.length_map]; omega, ?_, fun sn hsn => ?_⟩⟩
      · rw [List.length_map]
        show 1 * _ ≤ _
        exact Nat.le_trans (show 1 * ((row.length : Nat) : Int).toNat ≤ 6 by omega) (by decide)
      · rw [List.length_map, show ((row.length : Nat) : Int).toNat = row.length by omega, flat0]
        have s4 : Same H3 (L2.upd (L2.upd H3 u (.lst [.int 0])) sn (.lst ((List.replicate row.length 0).map fun n : Nat => V.int (n : Int)))) := Same.new (Same.new (Same.refl _) hu) hsn
        have csn : (L2.upd (L2.upd H3 u (.lst [.int 0])) sn (.lst ((List.replicate row.length 0).map fun n : Nat => V.int (n : Int)))) sn = some (.lst ((List.replicate row.length 0).map fun n : Nat => V.int (n : Int))) := upd_same
        have hsn3 : H3 sn = none := by
          cases z : H3 sn with
          | none => rfl
          | some o =>
            have := Same.new (o := .lst [.int 0]) (Same.refl H3) hu _ _ z
            rw [this] at hsn; cases hsn
        generalize L2.upd (L2.upd H3 u (.lst [.int 0])) sn (.lst ((List.replicate row.length 0).map fun n : Nat => V.int (n : Int))) = H4 at s4 csn ⊢
        intro a dx ha hdx hadx
        have s5 : Same H4 (L2.upd (L2.upd H4 dx (.own a)) a (.ins c.st dx [])) := Same.new (Same.new (Same.refl _) hdx) (by rw [upd_ne hadx.symm]; exact ha)
        refine ⟨a, dx, D, sn, .ref su, .ref bo, .int 0, 0, 0, rfl, upd_same, fun ev sh m t i o H6 B6 => ⟨rfl, ?_⟩⟩
        have hn0 : ∀ {e : Addr}, H2 e = none → H e = none := fun {e} h => by
          cases z : H e with
          | none => rfl
          | some o => rw [s2 _ _ z] at h; cases h
        have hn3 : ∀ {e : Addr}, H3 e = none → H2 e = none := fun {e} h => by
          cases z : H2 e with
          | none => rfl
          | some o => rw [s3 _ _ z] at h; cases h
        have hn4 : ∀ {e : Addr}, H4 e = none → H3 e = none := fun {e} h => by
          cases z : H3 e with
          | none => rfl
          | some o => rw [s4 _ _ z] at h; cases h
        have hn5 : ∀ {e : Addr}, (L2.upd (L2.upd H4 dx (.own a)) a (.ins c.st dx [])) e = none → H4 e = none := fun {e} h => by
          cases z : H4 e with
          | none => rfl
          | some o => rw [s5 _ _ z] at h; cases h
        have up : ∀ e o, H4 e = some o → H6 e = some o := fun e o h => B6.ka e o (s5 e o h) (ne_of_none h ha)
        have up3 : ∀ e o, H3 e = some o → H6 e = some o := fun e o h => up _ _ (s4 _ _ h)
        have up2 : ∀ e o, H2 e = some o → H6 e = some o := fun e o h => up3 _ _ (s3 _ _ h)
        have up0 : ∀ e o, H e = some o → H6 e = some o := fun e o h => up2 _ _ (s2 _ _ h)
        let x : A0 := ⟨pt, ca, bo, bdx, p0, p1, p2, p3, p4, p5, p6, p7, p8, D, sn, a, dx, ev, m, t, i, o, su, sdx, .ref sh, lanes, ps⟩
        -- what each layer is
        have q1 : ∀ q ∈ x.l1, H q.2.1 = some q.2.2 := List.forall_mem_cons.mpr ⟨hpt, List.forall_mem_cons.mpr ⟨hca, fun _ h => nomatch h⟩⟩
        have q2 : ∀ q ∈ x.l2 c, H q.2.1 = none ∧ H2 q.2.1 = some q.2.2 := by
          have nb : ∀ q ∈ [(p0, HO.lst []), (p1, .dK []), (p2, .dK []), (p3, .dK []), (p4, .dK []), (p5, .dK []), (p6, .dK []), (p7, .dK []), (p8, .dK [])], H q.1 = none ∧ H2 q.1 = some q.2 := fun q hq => ⟨n1 (B.new q hq).1, (B.new q hq).2.2⟩
          refine List.forall_mem_cons.mpr ⟨⟨hbo, B.at_⟩, ?_⟩
          simp only [List.forall_mem_cons] at nb ⊢
          obtain ⟨e0, e1, e2, e3, e4, e5, e6, e7, e8, _⟩ := nb
          exact ⟨e0, e1, e2, e3, e4, e5, e6, e7, e8, fun _ h => nomatch h⟩
        have q3 : ∀ q ∈ x.l3, H2 q.2.1 = none ∧ H3 q.2.1 = some q.2.2 := List.forall_mem_cons.mpr ⟨⟨hD2, c3⟩, fun _ h => nomatch h⟩
        have qL : ∀ q ∈ lnL x.lanes, H2 q.2.1 = none ∧ H3 q.2.1 = some q.2.2 ∧ q.2.1 ≠ D := fun q hq => by
          obtain ⟨⟨b, j⟩, hb, rfl⟩ := List.mem_map.mp hq
          have hb : b ∈ lanes := by
            have := List.mem_map_of_mem (f := Prod.fst) hb
            rw [List.zipIdx_map_fst] at this
            exact this
          exact ⟨(f3 b hb).2.1, (f3 b hb).1, (f3 b hb).2.2⟩
        have q4 : ∀ q ∈ x.l4 row.length, H3 q.2.1 = none ∧ H4 q.2.1 = some q.2.2 := List.forall_mem_cons.mpr ⟨⟨hsn3, csn⟩, fun _ h => nomatch h⟩
        have q5 : ∀ q ∈ x.l5 c, H4 q.2.1 = none ∧ H6 q.2.1 = some q.2.2 := by
          have nb : ∀ q ∈ [(ev, HO.lst []), (sh, .tup [.int 0, .str ""]), (m, .lst []), (t, .lst []), (i, .lst []), (o, .lst [])], H4 q.1 = none ∧ H6 q.1 = some q.2 := fun q hq => ⟨hn5 (B6.new q hq).1, (B6.new q hq).2.2⟩
          refine List.forall_mem_cons.mpr ⟨⟨ha, B6.at_⟩, ?_⟩
          simp only [List.forall_mem_cons] at nb ⊢
          exact ⟨nb.1, nb.2.2.1, nb.2.2.2.1, nb.2.2.2.2.1, nb.2.2.2.2.2.1, fun _ h => nomatch h⟩
        have hall : ∀ q ∈ x.l c row.length, H6 q.2.1 = some q.2.2 := fun q hq => by
          rw [A0.l_eq] at hq
          simp only [List.mem_append] at hq
          rcases hq with h | h | h | h | h | h
          · exact up0 _ _ (q1 q h)
          · exact up2 _ _ (q2 q h).2
          · exact up3 _ _ (q3 q h).2
          · exact up _ _ (q4 q h).2
          · exact (q5 q h).2
          · exact up3 _ _ (qL q h).2.1
        have old : ∀ q ∈ x.l c row.length, q.2.1 = pt ∨ q.2.1 = ca ∨ H q.2.1 = none := fun q hq => by
          rw [A0.l_eq] at hq
          simp only [List.mem_append] at hq
          rcases hq with h | h | h | h | h | h
          · simp only [A0.l1, List.mem_cons, List.mem_nil_iff, or_false] at h
            rcases h with rfl | rfl
            · exact .inl rfl
            · exact .inr (.inl rfl)
          · exact .inr (.inr (q2 q h).1)
          · exact .inr (.inr (hn0 (q3 q h).1))
          · exact .inr (.inr (hn0 (hn3 (q4 q h).1)))
          · exact .inr (.inr (hn0 (hn3 (hn4 (q5 q h).1))))
          · exact .inr (.inr (hn0 (qL q h).1))
        have nd1 : (x.l1.map (·.2.1)).Nodup := by
          show [pt, ca].Nodup
          have : pt ≠ ca := ne_of hpt hca (by intro z; cases z)
          simp [this]
        have nd2 : ((x.l2 c).map (·.2.1)).Nodup := by
          show [bo, p0, p1, p2, p3, p4, p5, p6, p7, p8].Nodup
          rw [List.nodup_cons]
          refine ⟨fun hm => ?_, B.nd⟩
          have nb : ∀ q ∈ [(p0, HO.lst []), (p1, .dK []), (p2, .dK []), (p3, .dK []), (p4, .dK []), (p5, .dK []), (p6, .dK []), (p7, .dK []), (p8, .dK [])], q.1 ≠ bo := fun q hq => (B.new q hq).2.1
          obtain ⟨q, hq, e⟩ := List.mem_map.mp (show bo ∈ [(p0, HO.lst []), (p1, .dK []), (p2, .dK []), (p3, .dK []), (p4, .dK []), (p5, .dK []), (p6, .dK []), (p7, .dK []), (p8, .dK [])].map (·.1) from hm)
          exact nb q hq e
        have nd5 : ((x.l5 c).map (·.2.1)).Nodup := by
          show [a, ev, m, t, i, o].Nodup
          have b6 := B6.nd
          have nb : ∀ q ∈ [(ev, HO.lst []), (sh, .tup [.int 0, .str ""]), (m, .lst []), (t, .lst []), (i, .lst []), (o, .lst [])], q.1 ≠ a := fun q hq => (B6.new q hq).2.1
          simp only [List.forall_mem_cons] at nb
          simp only [List.map_cons, List.map_nil, List.nodup_cons, List.mem_cons, List.mem_nil_iff, or_false, not_or] at b6 ⊢
          exact ⟨⟨nb.1.symm, nb.2.2.1.symm, nb.2.2.2.1.symm, nb.2.2.2.2.1.symm, nb.2.2.2.2.2.1.symm⟩, ⟨b6.1.2.1, b6.1.2.2.1, b6.1.2.2.2.1, b6.1.2.2.2.2⟩, b6.2.2.1, b6.2.2.2.1, b6.2.2.2.2.1, b6.2.2.2.2.2⟩
        have nd3 : ((x.l3 ++ lnL x.lanes).map (·.2.1)).Nodup := by
          rw [List.map_append, lnL_ad]
          show (D :: lanes).Nodup
          rw [List.nodup_cons]
          exact ⟨fun hm => (f3 D hm).2.2 rfl, d3⟩
        have nd : ((x.l c row.length).map (·.2.1)).Nodup := by
          have e : (x.l5 c ++ (x.l4 row.length ++ ((x.l3 ++ lnL x.lanes) ++ (x.l2 c ++ x.l1)))).Perm (x.l c row.length) := by
            rw [A0.l_eq]
            refine (List.perm_append_comm).trans ?_
            refine (List.Perm.append_right _ List.perm_append_comm).trans ?_
            refine (List.Perm.append_right _ (List.Perm.append_right _ List.perm_append_comm)).trans ?_
            refine (List.Perm.append_right _ (List.Perm.append_right _ (List.Perm.append_right _ List.perm_append_comm))).trans ?_
            simp only [List.append_assoc]
            refine List.Perm.append_left _ (List.Perm.append_left _ (List.Perm.append_left _ ?_))
            refine List.perm_append_comm.trans ?_
            rw [List.append_assoc]
          refine (e.map _).nodup_iff.mp ?_
          rw [List.map_append, List.map_append, List.map_append]
          have mem : ∀ {l : List (Tag × Addr × HO)} {Pr : Addr → Prop}, (∀ q ∈ l, Pr q.2.1) → ∀ a ∈ l.map (·.2.1), Pr a := fun h a ha => by
            obtain ⟨q, hq, rfl⟩ := List.mem_map.mp ha
            exact h q hq
          have some_ : ∀ {H : Hp} {a : Addr} {o : HO}, H a = some o → H a ≠ none := fun h z => by rw [h] at z; cases z
          refine nodup_layer (H := H4) nd5 (nodup_layer (H := H3) (by simp [A0.l4]) (nodup_layer (H := H2) nd3 ?_ ?_ ?_) ?_ ?_) ?_ ?_
          · rw [List.map_append]
            exact nodup_layer (H := H) nd2 nd1 (mem fun q h => (q2 q h).1) (mem fun q h => some_ (q1 q h))
          · exact mem fun q h => (List.mem_append.mp h).elim (fun h => (q3 q h).1) fun h => (qL q h).1
          · exact mem fun q h => (List.mem_append.mp h).elim (fun h => some_ (q2 q h).2) fun h => some_ (s2 _ _ (q1 q h))
          · exact mem fun q h => (q4 q h).1
          · rw [← List.map_append]
            refine mem fun q h => ?_
            rcases List.mem_append.mp h with h | h
            · rcases List.mem_append.mp h with h | h
              · exact some_ (q3 q h).2
              · exact some_ (qL q h).2.1
            · rcases List.mem_append.mp h with h | h
              · exact some_ (s3 _ _ (q2 q h).2)
              · exact some_ (s3 _ _ (s2 _ _ (q1 q h)))
          · exact mem fun q h => (q5 q h).1
          · rw [← List.map_append, ← List.map_append]
            refine mem fun q h => ?_
            rcases List.mem_append.mp h with h | h
            · exact some_ (q4 q h).2
            rcases List.mem_append.mp h with h | h
            · rcases List.mem_append.mp h with h | h
              · exact some_ (s4 _ _ (q3 q h).2)
              · exact some_ (s4 _ _ (qL q h).2.1)
            · rcases List.mem_append.mp h with h | h
              · exact some_ (s4 _ _ (s3 _ _ (q2 q h).2))
              · exact some_ (s4 _ _ (s3 _ _ (s2 _ _ (q1 q h))))
        have mr := mr0 (K := K) (x := x) (fl := fl) (dp := dp) X.cn hall nd (up0 _ _ hsu) (up0 _ _ hpa) (pats_to hpp fun e xs h => up0 _ _ h) l6 n3
        refine k (x.L c row.length) H6 up0 mr rfl fun e he => ?_
        obtain ⟨q, hq, rfl⟩ := List.mem_map.mp (lyOf_role he)
        exact old q hq
end
end My

set_option Elab.async false
set_option linter.all false
set_option maxRecDepth 100000
set_option maxHeartbeats 4000000
namespace My
open PySem L2 PyProof.Rows
section
variable {P : Program} {w : World} {K : PySem.W.Frag} {mg : Str → Option Value} {pB : Heap} {c : CC}
/-- others change what isn't ours -/
theorem MR.frame {H H' : Hp} {L : Ly} {M : Mach} (m : MR K c H L M) (k : ∀ a o, H a = some o → L.role a ≠ none ∨ Fro c o → H' a = some o) : MR K c H' L M :=
  ⟨m.cr.frame fun a o e r => k a o e (.inl r), m.ar.kept fun a o e f => k a o e (.inr f)⟩
theorem MR.oth {H : Hp} {L : Ly} {M : Mach} {p : Addr} {o u : HO} (m : MR K c H L M) (e : H p = some o) (n : ¬ Fro c o) (r : L.role p = none) : MR K c (L2.upd H p u) L M :=
  ⟨m.cr.oth r, m.ar.kept (Kept.refl.upd e n)⟩
/-- the class of loops -/
structure LC (K : PySem.W.Frag) (c : CC) : Prop where
  lp : ClsF K c.lp ["state"]
  n1 : c.lp ≠ c.wk
  n2 : c.lp ≠ c.su
theorem nf_lp (n : LC K c) {dx : Addr} {fs : List (Str × V)} : ¬ Fro c (.ins c.lp dx fs) := fun z => z.elim n.n1 n.n2
/-! ### a loop is made -/
abbrev nLoop : List Str := ["self", "ranks", "patience", "flood", "deep", "calls", "bears"]
abbrev pLoop : List Str := ["self", "ranks", "patience", "flood", "deep", "calls"]
theorem scLoop : FnScope nLoop pLoop (d_Loop_init).scope := ⟨rfl, rfl, rfl, by decide +kernel, rfl, by decide +kernel, by decide +kernel⟩
def spLoopG (K : PySem.W.Frag) (c : CC) : Sp := fun vs H Q _ => ∃ (lp ldx : Addr) (row : Row) (n : Nat) (vp : V) (fl dp : Nat), vs = [.ref lp, .int (n : Int), vp, .int (fl : Int), .int (dp : Int), .non] ∧ H lp = some (.ins c.lp ldx []) ∧
  ((vp = .non ∧ row = List.replicate n none) ∨ ∃ pa, vp = .ref pa ∧ H pa = some (.tup (row.map vO))) ∧ 1 ≤ row.length ∧ row.length ≤ 6 ∧
  ∀ (L : Ly) (H' : Hp), Ka lp H H' → MR K c H' L (mach0 fl dp row) → H' lp = some (.ins c.lp ldx [("state", .ref (L.ad .st))]) → (∀ e, L.role e ≠ none → H e = none) → Q .non H'
theorem none_back {H H' : Hp} (s : Same H H') {e : Addr} (h : H' e = none) : H e = none := by
  cases z : H e with
  | none => rfl
  | some o => rw [s _ _ z] at h; cases h
theorem ok_loopG {f fU fF : Addr} {fd dU dF : FuncData} (F : FnDd K d_Loop_init f fd) (X : MC K c) (Y : LC K c) (GU : FnOk P w K mg pB CX0 1 fU dU ["self", "patience", "flood", "deep", "calls"] (spSetupG K c.su)) (MU : Mkc K mg "Setup" c.su fU dU ["self", "patience", "flood", "deep", "calls"])
    (GF : FnOk P w K mg pB CX0 3 fF dF ["setup"] (spFirstG K c)) (CF : Cal K mg "first_state" fF dF ["setup"]) (mS : mg "State" = some (.ref c.st)) (kS : PySem.W.kitOne K (.type "NoneType") (.ref c.st) = some false)
    (mI : mg "isinstance" = none) (mT : mg "tuple" = none) (mD : mg "dict" = none) : FnOk P w K mg pB CX0 4 f fd pLoop (spLoopG K c) := by
  refine F.ok scLoop (fun vs H Q E h => ?_) (fun cdv A outer s0 H vs Q E hr h => ?_)
  · obtain ⟨lp, ldx, row, n, vp, fl, dp, rfl, _⟩ := h
    rfl
  · obtain ⟨lp, ldx, row, n, vp, fl, dp, rfl, hlp, hrow, l1, l6, k⟩ := h
    have nd := scLoop.nd
    refine ⟨_, pss_one (ps_if (pt_val (pe_callB call_isi (by rfl) mI (by decide +kernel) (pa_cons (pv 5) (pa_cons (pe_glob (by rfl) mS (show RelV (.ref c.st) _ from rfl)) pa_nil))))
      (pss_one (ps_fld (pv 0) (pv 5) (by rfl)))
      (pss_cons (ps_set (i := 6) nd rfl (Or.inl rfl) (pe_ifExp (pt_cmp (pc_isN (pv 2))) (pe_op op_repA (pe_tup (pa_cons pe_non pa_nil)) (pv 1)) (pe_callTy call_tupleT (by rfl) mT (by decide +kernel) (pa_cons (pv 2) pa_nil))))
        (pss_one (ps_fld (pv 0) (pe_call GF hr (by rfl) CF.m CF.k CF.b .nil pass0 (pa_cons (pe_make MU.k GU (hr.mono (by decide)) (by rfl) MU.m MU.b .nil pass0 (pa_cons (pv 6) (pa_cons (pv 3) (pa_cons (pv 4) (pa_cons
          (pe_ifExp (pt_cmp (pc_isN (pv 5))) pe_dnewK (pe_callTy (call_dictP rfl) (by rfl) mD (by decide +kernel) (pa_cons (pv 5) pa_nil))) pa_nil))))) pa_nil)) (by rfl))))), ?_⟩
    refine ⟨_, rfl, .non, .ref c.st, .type "NoneType", .ref c.st, false, rfl, .own _, .base .non, kS, _, rfl, iteF ?_⟩
    refine gmid_of (fun σ' H1 => ∃ pa, σ' = [some (.ref lp), some (.int (n : Int)), some vp, some (.int (fl : Int)), some (.int (dp : Int)), some .non, some (.ref pa)] ∧ Same H H1 ∧ H1 pa = some (.tup (row.map vO))) (fun N hN => ?_) ?_
    · rcases hrow with ⟨rfl, rfl⟩ | ⟨pa, rfl, hpa⟩
      · rw [List.length_replicate] at l1 l6
        refine asg_1 ⟨_, rfl, _, rfl, iteT ?_⟩
        refine ⟨by show 1 ≤ sizeLine; decide, fun t ht => ?_⟩
        have s4 : Same H (upd H t (.tup [V.non])) := Same.new (Same.refl _) ht
        have et : (upd H t (.tup [V.non])) t = some (.tup [V.non]) := upd_same
        generalize upd H t (.tup [V.non]) = H4 at s4 et ⊢
        have er : (List.replicate n (none : Option Int)).map vO = List.replicate n V.non := by rw [List.map_replicate]; rfl
        refine ⟨_, rfl, t, _, _, rfl, rfl, SqT.of et, (fun z => nomatch z), by omega, by omega, by show 1 ≤ 1000; decide, fun h1 => ?_, fun h2 p hp' => ?_⟩
        · refine hN _ _ ⟨t, rfl, s4, ?_⟩
          rw [er, show n = 1 by omega]; exact et
        · refine hN _ _ ⟨p, rfl, Same.new s4 hp', ?_⟩
          rw [er, upd_same]
          rw [show ((n : Nat) : Int).toNat = n by omega]
          congr 2
          clear k hN hr nd l1 l6 h2 hp' er
          induction n with
          | zero => rfl
          | succ n ih => rw [List.replicate_succ, List.flatten_cons, ih, List.replicate_succ]; rfl
      · refine asg_1 ⟨_, rfl, _, rfl, iteF ⟨_, rfl, pa, _, rfl, SqT.of hpa, ?_⟩⟩
        exact hN _ _ ⟨pa, rfl, Same.refl _, hpa⟩
    · rintro σ' H1 ⟨pa, rfl, s0', hpa⟩
      refine ⟨_, rfl, _, rfl, _, rfl, _, rfl, _, rfl, iteT fun ca hca => ?_⟩
      intro su sdx hsu hsdx hne
      have sc1 : Same H1 (L2.upd H1 ca (.dK [])) := Same.new (Same.refl _) hca
      have s1 : Same H1 (L2.upd (L2.upd (L2.upd H1 ca (.dK [])) sdx (.own su)) su (.ins c.su sdx [])) := Same.new (Same.new (Same.new (Same.refl _) hca) hsdx) (by rw [upd_ne hne.symm]; exact hsu)
      have hcas : ca ≠ su := fun z => by rw [← z, upd_same] at hsu; cases hsu
      have hcad : ca ≠ sdx := fun z => by rw [← z, upd_same] at hsdx; cases hsdx
      refine ⟨su, sdx, pa, ca, row, (fl : Int), (dp : Int), rfl, upd_same, s1 _ _ hpa, by omega, fun D ps H2 B pp => ⟨rfl, ?_⟩⟩
      have hsu0 : H1 su = none := none_back sc1 hsu
      have s2 : Same H1 H2 := fun e o h => B.ka e o (s1 e o h) (ne_of_none h hsu0)
      have hD := B.new (D, .lst (ps.map V.ref)) (by simp)
      have hca2 : H2 ca = some (.dK []) := B.ka _ _ (by rw [upd_ne hcas, upd_ne hcad]; exact upd_same) hcas
      refine ⟨su, sdx, pa, ca, D, row, ps, fl, dp, rfl, B.at_, s2 _ _ hpa, hD.2.2, hca2, pp, l1, l6, fun L H3 s3 m hsu' fr => ?_⟩
      have s03 : Same H H3 := (s0'.trans s2).trans s3
      refine ⟨_, rfl, lp, c.lp, ldx, [], rfl, s03 _ _ hlp, Y.lp.c, Y.lp.n _ (by decide), (show 0 < 1000 by decide), ?_⟩
      have fr2 : ∀ e, L.role e ≠ none → H e = none := fun e he => by
        rcases fr e he with h | h | h
        · rw [h]
          exact none_back s0' (none_back s1 hD.1)
        · rw [h]
          exact none_back s0' hca
        · exact none_back s0' (none_back s2 h)
      have rl : L.role lp = none := by
        cases z : L.role lp with
        | none => rfl
        | some t =>
          have := fr2 lp (by rw [z]; exact fun y => by cases y)
          rw [hlp] at this; cases this
      exact k L _ (fun e o h n => by rw [upd_ne n]; exact s03 _ _ h) (m.oth (s03 _ _ hlp) (nf_lp Y) rl) upd_same fr2
end
end My

set_option Elab.async false
set_option linter.all false
set_option maxRecDepth 100000
set_option maxHeartbeats 4000000
namespace L2
open PySem PySem.Spec PyProof.Rows
/-! ### a written table, asked by get -/
def tKGet (K : PySem.W.Frag) (w : World) (td ty : TE) : TE := fun σ H Q => td σ H fun x H1 => ∃ a es n, x = .ref a ∧ KDict K w a es n ∧ ty σ H1 fun y H2 => ∃ z u0 v0, y = .str z ∧ PySem.W.nsIn K a z = some (some u0) ∧ RelV v0 u0 ∧ Q v0 H2
theorem pe_kget {X : Cx} {o e : Expr} {apos cpos : Pos} {td ty : TE} (ho : PE X o td) (he : PE X e ty) (m : M1 X o "get" apos e cpos) : PE X (.Call (.Attribute o "get" apos) [e] [] cpos) (tKGet X.K X.w td ty) := by
  refine ⟨fun pins s σ H Q I h => ?_⟩
  refine wpAny_Call_method m.base m.few m.line PySem.F.plainAttrs_dict PySem.F.slot_dict_get PySem.F.type_dict_get (thn (ho.run pins s σ H _ I h) fun u s1 ⟨x, H1, I1, rx, a, es, n, ex, D, q1⟩ => ?_)
  subst ex
  obtain rfl : u = Value.ref a := rx
  refine ⟨kd_type D I1, fun b q => ?_, ?_⟩
  · cases q
    exact ⟨_, I1.kIn _ _ D.at_, rfl⟩
  rw [m.trees]
  refine Calls.callWith_builtin rfl (Calls.evalArgs_plain (Calls.spliced_cons (thn (he.run pins s1 σ H1 _ I1 q1) fun iv s2 ⟨y, H2, I2, ry, z, u0, v0, ey, en, rv, q2⟩ => Calls.spliced_nil ?_)))
  subst ey
  obtain ⟨t, rfl⟩ := ry
  refine call_meetsIn PySem.F.slot_dict_get (kd_type D I2) PySem.F.entry_dict_get (PySem.F.args_dict_get_2 _ _) (meets_dict_get (strKind X.prog X.w) a (strKind_is X.prog X.w z t) D.low) ⟨_, PySem.W.mapOf_K (prog := X.prog) (w := X.w) I2.kIn D.at_ D.lit, ?_⟩
  rw [PySem.W.find_K D.at_ en]
  exact ⟨v0, H2, I2.tok _, rv, q2⟩
/-! ### o.m(e, k = v) of an instance -/
def tMethK (C : Addr) (m : Str) (n j : Nat) (sp : Sp) (gV : List V → List V → List V) (E : XK) (ta : TE) (t tk : TA) : TE := fun σ H Q => ta σ H fun x H1 => ∃ a dx fs, x = .ref a ∧ H1 a = some (.ins C dx fs) ∧ fs.lookup m = none ∧
  t σ H1 fun vs H2 => tk σ H2 fun zs H3 => vs.length = n ∧ zs.length = j ∧ sp (gV (x :: vs) zs) H3 Q E
theorem pe_methK {X : Cx} {CX : CXT} {k n : Nat} {f C : Addr} {fd : FuncData} {ps ks : List Str} {sp : Sp} {E : XK} {m : Str} {pos apos : Pos} {o e : Expr} {es : List Expr} {kws : List Keyword} {ta : TE} {t tk : TA} {g : List Value → List Value → List Value} {gV : List V → List V → List V} {pl : Sem Bool}
    (he : PE X o ta) (c : Cls X.K C) (hm : Meth X.K C m f) (F : FnOk X.prog X.w X.K X.mg X.base CX k f fd ps sp) (hr : Room k X.A) (hb : KBn X.K fd ps (n + 1) ks g gV) (hx : Passes CX X E) (ha : PA X (e :: es) t) (hkw : PK X kws tk)
    (hall : (backToKw pos (keywordEach kws X.env)).all (·.1.isSome) = true := by rfl) (hks : (backToKw pos (keywordEach kws X.env)).filterMap (·.1) = ks := by rfl)
    (hst : starEach (e :: es) X.env = (false, eval e X.env) :: starEach es X.env := by rfl) (hpl : ((backTo pos (starEach (e :: es) X.env)).any (·.1) || (backToKw pos (keywordEach kws X.env)).any (·.1.isNone)) = false := by rfl)
    (ht : eval (.Call (.Attribute o m apos) (e :: es) kws pos) X.env = (do
      let ov ← eval o X.env
      standAt apos.atName
      let (f, first) ← holding [ov] (getMethod ov m pl)
      callWith pos f first (backTo pos (starEach (e :: es) X.env)) (backToKw pos (keywordEach kws X.env))) := by rfl) :
    PE X (.Call (.Attribute o m apos) (e :: es) kws pos) (tMethK C m n ks.length sp gV E ta t tk) := by
  refine ⟨fun pins s σ H Q I h => ?_⟩
  refine PySem.W.methodCall_KW (pl := pl) (thn (he.run pins s σ H _ I h) fun u s1 ⟨x, H1, I1, rx, a, dx, fs, ex, ea, l, q⟩ => ?_) ht
  subst ex
  obtain rfl : u = Value.ref a := rx
  refine getmeth_ok I1 ea c hm l ?_
  refine PySem.W.callWith_KW (first := [.ref a]) (h₀ := X.base) I.ok.mod.kin hm.kp hall (thn (ha.run pos pins s1 σ H1 _ I1 q) fun us s2 ⟨vs, H2, I2, r, q2⟩ => ?_) hpl hst
  refine thn (hkw.run pos pins s2 σ H2 _ I2 q2) fun ws s3 ⟨zs, H3, I3, rz, l1, l2, q3⟩ => ⟨I3.kIn, ?_⟩
  rw [hks]
  have r1 : Vals (V.ref a :: vs) (Value.ref a :: us) := .cons rfl r
  have n1 : (Value.ref a :: us).length = n + 1 := by rw [List.length_cons, ← r.length, l1]
  refine wpAny_call (codeAny_mono (F.run X.A X.stack s3 H3 ⟨.ref a :: us, ks.zip ws⟩ (g (.ref a :: us) ws) (gV (.ref a :: vs) zs) Q E hr I3.env0 (hb.to s3 _ ws I3.kIn n1 (rz.length.symm.trans l2)) (hb.rel r1 rz) q3) fun r s' hq => ?_)
  cases r with
  | error e => exact hx pins σ H3 s3 e s' I3 hq
  | ok fl =>
    cases fl with
    | ret u => exact I3.after hq
    | next => exact False.elim hq
    | brk => exact False.elim hq
    | cont => exact False.elim hq
end L2
namespace L2
open PySem PySem.W PySem.Spec PyProof.Rows
/-! ### any of a list of lists -/
def rAnyL (K : PySem.W.Frag) : List V → Hp → VK → Prop := fun vs H Q => ∃ (a : Addr) (bs : List Addr) (xss : List (List V)), vs = [V.ref a] ∧ SqL K H a (bs.map V.ref) ∧ Paired (fun b xs => H b = some (.lst xs)) bs xss ∧ Q (.bl (xss.any fun xs => !xs.isEmpty)) H
theorem paired_at {α β : Type} {F : α → β → Prop} : ∀ {xs : List α} {ys : List β} {i : Nat} {x : α}, Paired F xs ys → xs[i]? = some x → ∃ y, ys[i]? = some y ∧ F x y
  | _, _, _, _, .nil, e => by simp at e
  | _, _, 0, _, .cons r _, e => by
    simp at e
    subst e
    exact ⟨_, rfl, r⟩
  | _, _, i + 1, x, .cons _ t, e => by
    obtain ⟨y, h1, h2⟩ := paired_at (i := i) (x := x) t (by simpa using e)
    exact ⟨y, by simpa using h1, h2⟩
theorem call_anyL {X : Cx} (hc : X.calm = true) : CallR X (.builtin "any") (rAnyL X.K) := by
  intro pins s σ H vs us Q I r h
  obtain ⟨a, bs, xss, rfl, hs, hp, q⟩ := h
  obtain ⟨its, rv, hl, _⟩ := I.list hs
  rw [Vals.ref1 r]
  have hn : its.toArray.size = xss.length := by
    rw [List.size_toArray, ← rv.length, List.length_map, Paired.length hp]
  refine call_any_walkH (iter_listW (A := X.A.in1) (I.ok.hd hc) hl.isList fun s₂ e W st hfp hw hk => ?_)
  refine ⟨_, _, _, _, _, _, _, s.heap, fun i => !(xss.getD i []).isEmpty, rfl, W, st, hw, hk, ?_, fun s' m => ?_⟩
  · intro i v s' Q' E' hkp hv hq
    have hv' : its[i]? = some v := by simpa using hv
    have hlt : i < (bs.map V.ref).length := by rw [rv.length]; exact (List.getElem?_eq_some_iff.mp hv').1
    have hlb : i < bs.length := by rw [List.length_map] at hlt; exact hlt
    have eb : bs[i]? = some bs[i] := List.getElem?_eq_getElem hlb
    obtain ⟨xs, ex, hb⟩ := paired_at hp eb
    obtain ⟨u, hu, ru⟩ := Vals.get rv (show (bs.map V.ref)[i]? = some (.ref bs[i]) by rw [List.getElem?_map, eb]; rfl)
    rw [hv'] at hu
    cases hu
    cases (show v = Value.ref bs[i] from ru)
    obtain ⟨hz, its2, n2, rv2, h2⟩ := (show ObjOk X.prog X.w H s.heap bs[i] (.lst xs) from I.hok _ _ hb)
    have hL : s'.heap.IsList bs[i] its2.toArray := ⟨_, hkp _ _ h2, rfl, n2, rfl⟩
    have hsz : its2.toArray.size = xs.length := by rw [List.size_toArray, ← rv2.length]
    refine wpAny_truthy_list hL (by rw [hsz]; exact Int.lt_of_le_of_lt (Int.ofNat_le.mpr hz) (by decide)) ?_
    have e1 : (xss.getD i []) = xs := by rw [List.getD_eq_getElem?_getD, ex]; rfl
    have e2 : its2.toArray.isEmpty = xs.isEmpty := by
      unfold Array.isEmpty
      rw [hsz]
      cases xs <;> simp
    have this : Q' (!(xss.getD i []).isEmpty) { s' with toks := s'.toks + 1 + 1 } := hq (s'.toks + 1 + 1) (by omega)
    rw [e1] at this
    rw [e2]
    exact this
  · obtain ⟨h', tk, rfl, hk'⟩ := moved_old e rfl m
    rw [hn, range_any (fun xs : List V => !xs.isEmpty) [] xss]
    exact ⟨.bl _, H, I.kept hk', rfl, q⟩
end L2

set_option Elab.async false
set_option linter.all false
set_option maxRecDepth 100000
set_option maxHeartbeats 4000000
namespace My
open PySem L2 PyProof.Rows
/-! ### what a deed does -/
/-- the machine, what the work was told, the deed; the machine behind it, what it tells -/
abbrev ActR := Mach → PyData → PyData → Mach → PyData → Prop
def spAct (K : PySem.W.Frag) (c : CC) (A : ActR) : Sp := fun vs H Q _ => ∃ (L : Ly) (M : Mach) (told deed : PyData) (M' : Mach) (r : PyData) (vt vd : V), vs = [.ref (L.ad .st), vt, vd] ∧ MR K c H L M ∧ Dt K H vt told ∧ Dt K H vd deed ∧ A M told deed M' r ∧ M'.ticks < 1000000 ∧
  ∀ H' L' vr, MR K c H' L' M' → Stp H L H' L' → Dt K H' vr r → Q vr H'
abbrev pDo : List Str := ["state", "told", "deed"]
/-- the table of plain deeds, as far as it is asked -/
structure PlainT (P : Program) (w : World) (K : PySem.W.Frag) (mg : Str → Option Value) (pB : Heap) (c : CC) (kk : Nat) (A : ActR) (pA : Addr) (es : Array DictEntry) (nn : Nat) : Prop where
  m : mg "PLAIN" = some (.ref pA)
  kd : KDict K w pA es nn
  act : ∀ M told deed M' r, A M told deed M' r → ∃ (x : Str) (ps : List PyData) (fD : Addr) (sp : Sp), deed = .tuple (.str x :: ps) ∧ PySem.W.nsIn K pA x = some (some (.ref fD)) ∧ C8.CalAt P w K mg pB kk fD sp ∧
    ∀ vs H Q E, spAct K c (fun M1 t1 d1 M2 r2 => M1 = M ∧ t1 = told ∧ d1 = deed ∧ M2 = M' ∧ r2 = r) vs H Q E → sp vs H Q E
/-- deeds of a work that go on, one behind the other -/
inductive Fresh (A : ActR) (told : PyData) : Mach → List PyData → Mach → Prop
  | nil (M : Mach) : Fresh A told M [] M
  | cons {M M1 M2 : Mach} {d : PyData} {ds : List PyData} : A M told d M1 .none → M1.ticks < 1000000 → Fresh A told M1 ds M2 → Fresh A told M (d :: ds) M2
def spFresh (K : PySem.W.Frag) (c : CC) (A : ActR) : Sp := fun vs H Q _ => ∃ (L : Ly) (M : Mach) (w : Wk) (M' : Mach) (vw : V), vs = [.ref (L.ad .st), vw] ∧ MR K c H L M ∧ RWk K c H vw w ∧ w.pledge = none ∧ Fresh A w.told M w.script M' ∧
  ∀ H' L', MR K c H' L' M' → Stp H L H' L' → Q .non H'
section
variable {P : Program} {w : World} {K : PySem.W.Frag} {mg : Str → Option Value} {pB : Heap} {c : CC}
def actSay : ActR := fun M _ d M' r => ∃ x, d = .tuple [.str "say", x] ∧ M' = tellM M [.str "said", x] ∧ r = .none
theorem scSay : FnScope pDo pDo (d_do_say).scope := ⟨rfl, rfl, rfl, by decide +kernel, rfl, by decide +kernel, by decide +kernel⟩
theorem ok_say {f : Addr} {fd : FuncData} (F : FnDd K d_do_say f fd) (X : MC K c) : FnOk P w K mg pB CX0 1 f fd pDo (spAct K c actSay) := by
  refine F.ok scSay (fun vs H Q E h => ?_) (fun cdv A outer s0 H vs Q E hr h => ?_)
  · obtain ⟨L, M, told, deed, M', r, vt, vd, rfl, _⟩ := h
    rfl
  · obtain ⟨L, M, told, deed, M', r, vt, vd, rfl, m, ht, hd, ⟨x, rfl, rfl, rfl⟩, hb, k⟩ := h
    refine ⟨_, pss_one (ps_expr (pe_bm PySem.F.plainAttrs_list PySem.F.slot_list_append PySem.F.type_list_append mt_append (pe_fld (pv 0) (by rfl)) (pa_cons (pe_tup (pa_cons (pe_fld (pv 0) (by rfl)) (pa_cons pe_str (pa_cons (pe_ix ix_tup (pv 2) pe_int (fun _ _ => rfl)) pa_nil)))) pa_nil))), ?_⟩
    obtain ⟨da, dxs, rfl, sd, hds⟩ := hd.tupI
    cases hds with | cons h1 t =>
    cases h1
    cases t with | @cons v2 _ _ _ h2 t =>
    cases t
    obtain ⟨evs, ee, de⟩ := m.ar.events
    have hev := m.atL rfl ee
    have b1 := m.ar.bd
    have tk : M.ticks + 1 < 1000000 := hb
    refine ⟨_, rfl, L.ad .st, c.st, L.dx, _, .ref (L.ad .events), rfl, m.atS, X.st.c, X.st.n _ (by decide), rfl, .inl ⟨rfl, _, SqL.of hev⟩, _, rfl, L.ad .st, c.st, L.dx, _, .int M.clock, rfl, m.atS, X.st.c, X.st.n _ (by decide), rfl, _, rfl, da, _, _, v2, rfl, rfl, sd, atI_nat (j := 1) rfl, by show 3 ≤ sizeLine; decide, fun p hp => ?_⟩
    obtain ⟨m1, s1, e1⟩ := m.tell ee hp (vs := [.str "said", v2]) (ds := [.str "said", x]) (.cons (.str _) (.cons h2 .nil))
    refine ⟨L.ad .events, _, _, rfl, rfl, e1, ?_, k _ _ _ m1 s1 .non⟩
    rw [de.len, sizeLine_eq]; omega
theorem scFresh : FnScope ["state", "work", "at", "deed", "action", "doing", "reason"] ["state", "work"] (d_begin_fresh).scope := ⟨rfl, rfl, rfl, by decide +kernel, rfl, by decide +kernel, by decide +kernel⟩
theorem fresh_at {A : ActR} {told : PyData} {M M' : Mach} {ds : List PyData} (h : Fresh A told M ds M') (i : Nat) {d : PyData} (hd : ds[i]? = some d) : ∃ Mi Mj, Fresh A told M (ds.take i) Mi ∧ A Mi told d Mj .none ∧ Mj.ticks < 1000000 ∧ Fresh A told M (ds.take (i + 1)) Mj ∧ (∀ Mk, Fresh A told M (ds.take i) Mk → Mk = Mi → True) := by
  induction h generalizing i with
  | nil => simp at hd
  | @cons M M1 M2 d0 ds a t r ih =>
    cases i with
    | zero =>
      simp at hd
      subst hd
      exact ⟨M, M1, .nil _, a, t, .cons a t (.nil _), fun _ _ _ => trivial⟩
    | succ i =>
      obtain ⟨Mi, Mj, h1, h2, h3, h4, _⟩ := ih i (by simpa using hd)
      exact ⟨Mi, Mj, .cons a t h1, h2, h3, .cons a t h4, fun _ _ _ => trivial⟩
/-- what is left of the deeds behind i of them -/
inductive FreshTo (A : ActR) (told : PyData) (M' : Mach) : Mach → List PyData → Prop
  | mk {M : Mach} {ds : List PyData} : Fresh A told M ds M' → FreshTo A told M' M ds
theorem ok_fresh {f pA : Addr} {fd : FuncData} {es : Array DictEntry} {nn kk : Nat} {A : ActR} (F : FnDd K d_begin_fresh f fd) (X : MC K c) (T : PlainT P w K mg pB c kk A pA es nn) : FnOk P w K mg pB CX0 (kk + 1) f fd ["state", "work"] (spFresh K c A) := by
  refine F.ok scFresh (fun vs H Q E h => ?_) (fun cdv A0 outer s0 H vs Q E hr h => ?_)
  · obtain ⟨L, M, wk, M', vw, rfl, _⟩ := h
    rfl
  · obtain ⟨L, M, wk, M', vw, rfl, m, hw, hpl, hf, k⟩ := h
    have nd := scFresh.nd
    refine ⟨_, PSs.nox <| pss_cons (ps_set (i := 2) nd rfl (Or.inl rfl) pe_int)
      (pss_cons (ps_for PassesOwn.never rfl (pi_tup (pe_fld (pv 1) (by rfl))) (pg_name (i := 3) nd rfl (Or.inl rfl))
        (pss_cons (ps_set (i := 4) nd rfl (Or.inl rfl) (pe_kget (pe_glob (by rfl) T.m (show RelV (.ref pA) _ from rfl)) (pe_ix ix_tup (pv 3) pe_int (fun _ _ => rfl)) ⟨rfl, rfl, rfl, rfl⟩))
        (pss_cons (ps_if (pt_cmp (pc_isN (pv 4))) pss_never pss_nil)
        (pss_cons (ps_set (i := 6) nd rfl (Or.inl rfl) (pe_cvA (Ok := fun f sp => C8.CalAt P w K mg pB kk f sp) (i := 4) (fun f sp h => h) hr rfl (Or.inl rfl) (pa_cons (pv 0) (pa_cons (pe_fld (pv 1) (by rfl)) (pa_cons (pv 3) pa_nil)))))
        (pss_cons (ps_if (pt_cmp (pc_notN (pv 6))) pss_never pss_nil)
        (pss_one (ps_aug (i := 2) nd rfl (.inl rfl) pe_int ip_add)))))))
      (pss_one (ps_if (pt_cmp (pc_notN (pe_fld (pv 1) (by rfl)))) pss_never pss_nil))), ?_⟩
    obtain ⟨wa, dx, vn, vs, vt, vp, va, rfl, hwa, d1, d2, d3, d4, d5⟩ := hw
    obtain ⟨sc, xs, rfl, hsc, hds⟩ := d2.tupI
    rw [hpl] at d4
    cases d4
    have N : ∀ f ∈ fWork, NoAttr K c.wk f := X.wk.n
    refine asg_n ?_
    refine ⟨_, rfl, wa, c.wk, dx, _, .ref sc, rfl, hwa, X.wk.c, N _ (by decide), rfl, sc, rfl, ⟨_, hsc⟩, for_tup (xs := xs) (fun j σ H3 => (∃ (a2 : Int) (x3 x4 x6 : Option V), σ = [some (.ref (L.ad .st)), some (.ref wa), some (.int a2), x3, x4, none, x6]) ∧ ∃ L1 M1, MR K c H3 L1 M1 ∧ Stp H L H3 L1 ∧ Fresh A wk.told M1 (wk.script.drop j) M') ?_ ?_ ?_ ?_⟩
    · exact ⟨⟨0, none, none, none, rfl⟩, L, M, m, Stp.refl H L, hf⟩
    · rintro j σ H3 _ ⟨_, L1, M1, m1, s1, _⟩
      exact SqT.kept hsc (s1.kept m.cr)
    · rintro j y σ H3 hy ⟨⟨a2, x3, x4, x6, rfl⟩, L1, M1, m1, s1, hf1⟩
      have kp := s1.kept m.cr
      have hj : j < wk.script.length := by rw [← hds.len]; exact (List.getElem?_eq_some_iff.mp hy).1
      rw [List.drop_eq_getElem_cons hj] at hf1
      cases hf1 with
      | @cons _ M2 _ _ _ ha ht hr2 =>
      obtain ⟨v, hv, dv⟩ := hds.at (List.getElem?_eq_getElem hj)
      rw [hy] at hv
      cases hv
      have dv := dv.kept kp
      obtain ⟨x, ps, fD, sp, ed, eP, cA, imp⟩ := T.act _ _ _ _ _ ha
      rw [ed] at dv
      obtain ⟨d, dxs, rfl, sd, hdd⟩ := dv.tupI
      have dv' := dv
      cases hdd with | cons q1 q2 =>
      cases q1
      have hwa3 := kp _ _ hwa (.inl rfl)
      refine asg_n ⟨pA, es, nn, rfl, T.kd, _, rfl, d, _, 0, _, rfl, rfl, sd, atI_nat (j := 0) rfl, x, .ref fD, .ref fD, rfl, eP, rfl, ?_⟩
      refine ⟨_, rfl, _, rfl, iteF (nxt_of ?_)⟩
      refine asg_n ⟨fD, sp, rfl, cA, _, rfl, _, rfl, wa, c.wk, dx, _, vt, rfl, hwa3, X.wk.c, N _ (by decide), rfl, _, rfl, ?_⟩
      refine imp _ _ _ _ ⟨L1, M1, wk.told, _, M2, .none, vt, .ref d, by rw [s1.st], m1, d3.kept kp, by rw [ed]; exact dv', ⟨rfl, rfl, rfl, rfl, rfl⟩, ht, fun H' L' vr m' s' hr' => ?_⟩
      cases hr'
      refine ⟨_, rfl, _, rfl, iteF ?_⟩
      exact ⟨_, rfl, _, _, rfl, rfl, ⟨_, _, _, _, rfl⟩, L', M2, m', s1.trans s', hr2⟩
    · rintro σ H3 ⟨⟨a2, x3, x4, x6, rfl⟩, L1, M1, m1, s1, hf1⟩
      rw [hds.len, List.drop_length] at hf1
      cases hf1
      have hwa3 := (s1.kept m.cr) _ _ hwa (.inl rfl)
      refine ⟨_, rfl, wa, c.wk, dx, _, .non, rfl, hwa3, X.wk.c, N _ (by decide), rfl, _, rfl, iteF ?_⟩
      exact k _ _ m1 s1
end
end My

set_option Elab.async false
set_option linter.all false
set_option maxRecDepth 100000
set_option maxHeartbeats 4000000
namespace My
open PySem L2 PyProof.Rows
/-! ### the first work of a line is begun -/
def begunM (M : Mach) (i : Nat) (w : Wk) (rest : List Wk) (y : Str) : Mach := tellM { M with queues := M.queues.set i rest, picks := M.picks + 1, since := M.since.set i (M.picks + 1) } [.str "task", .int (w.num : Int), .int (i : Int), .str y]
/-- the rank that is chosen, and why: no rank has a patience -/
structure Pick (M : Mach) (i : Nat) (y : Str) : Prop where
  no : ∀ b ∈ M.bears, b = none
  wy : y = "least"
  lt : ∀ j, j < i → M.queues[j]? = some []
inductive Task (A : ActR) (M : Mach) : Mach → Prop
  | mk {i : Nat} {w : Wk} {rest : List Wk} {y : Str} {M' : Mach} : Pick M i y → M.queues[i]? = some (w :: rest) → w.around = none → w.pledge = none → (begunM M i w rest y).ticks < 1000000 → Fresh A w.told (begunM M i w rest y) w.script M' → Task A M M'
def spTask (K : PySem.W.Frag) (c : CC) (A : ActR) : Sp := fun vs H Q _ => ∃ (L : Ly) (M M' : Mach), vs = [.ref (L.ad .st)] ∧ MR K c H L M ∧ Task A M M' ∧
  ∀ H' L', MR K c H' L' M' → Stp H L H' L' → Q .non H'
theorem seq0 (n : Nat) : seqIndex? 0 (n + 1) = some 0 := by
  unfold seqIndex?
  simp
theorem patsM_none {bears : List (Option Int)} (h : ∀ b ∈ bears, b = none) : patsM bears = [] := by
  unfold patsM
  rw [List.filterMap_eq_nil_iff]
  intro x hx
  have hm : x.1 ∈ bears := by
    have := List.mem_map_of_mem (f := Prod.fst) hx
    rw [List.zipIdx_map_fst] at this
    exact this
  rw [h _ hm]; rfl
section
variable {P : Program} {w : World} {K : PySem.W.Frag} {mg : Str → Option Value} {pB : Heap} {c : CC}
theorem put_picks (L : Ly) (M : Mach) (n : Nat) : putF "picks" (.int (n : Int)) (stF L M) = stF L { M with picks := n } := rfl
theorem put_numbers (L : Ly) (M : Mach) (n : Nat) : putF "numbers" (.int (n : Int)) (stF L M) = stF L { M with numbers := n } := rfl
theorem put_done (L : Ly) (M : Mach) (n : Nat) : putF "done" (.int (n : Int)) (stF L M) = stF L { M with done := n } := rfl
theorem put_clock (L : Ly) (M : Mach) (n : Int) : putF "clock" (.int n) (stF L M) = stF L { M with clock := n } := rfl
theorem put_flooded (L : Ly) (M : Mach) (b : Bool) : putF "flooded" (.bl b) (stF L M) = stF L { M with flooded := b } := rfl
theorem MR.atSu {H : Hp} {L : Ly} {M : Mach} (m : MR K c H L M) : ∃ vp, H L.su = some (.ins c.su L.sdx (suF L M vp)) := by
  obtain ⟨vp, e, _⟩ := m.ar.su
  exact ⟨vp, e⟩
theorem Stp.ad_eq {H H' : Hp} {L L' : Ly} (s : Stp H L H' L') : L'.ad .st = L.ad .st := s.st
abbrev nTask : List Str := ["state", "rank", "why", "work", "picks"]
theorem scTask : FnScope nTask ["state"] (d_begin_task).scope := ⟨rfl, rfl, rfl, by decide +kernel, rfl, by decide +kernel, by decide +kernel⟩
theorem ok_task {f fO fF : Addr} {fd dO dF : FuncData} {kO kF : Nat} {spO : Sp} {A : ActR} (F : FnDd K d_begin_task f fd) (X : MC K c)
    (GO : FnOk P w K mg pB CX0 kO fO dO ["state"] spO) (CO : Cal K mg "overdue_rank" fO dO ["state"]) (GF : FnOk P w K mg pB CX0 kF fF dF ["state", "work"] (spFresh K c A)) (CF : Cal K mg "begin_fresh" fF dF ["state", "work"]) (hk : kO ≤ kF) : FnOk P w K mg pB CX0 (kF + 1) f fd ["state"] (spTask K c A) := by
  refine F.ok scTask (fun vs H Q E h => ?_) (fun cdv A0 outer s0 H vs Q E hr h => ?_)
  · obtain ⟨L, M, M', rfl, _⟩ := h
    rfl
  · obtain ⟨L, M, M', rfl, m, ht, k⟩ := h
    have nd := scTask.nd
    refine ⟨_, PSs.nox <| pss_cons (ps_set (i := 1) nd rfl (Or.inl rfl) (pe_ifExp (pt_truth (pe_fld (pe_fld (pv 0) (by rfl)) (by rfl)) (by intro _; rfl)) (pe_call GO (hr.mono hk) (by rfl) CO.m CO.k CO.b .nil pass0 (pa_cons (pv 0) pa_nil)) pe_non))
      (pss_cons (ps_set (i := 2) nd rfl (Or.inl rfl) pe_str)
      (pss_cons (ps_if (pt_cmp (pc_isN (pv 1))) (pss_cons (ps_set (i := 1) nd rfl (Or.inl rfl) pe_int) (pss_cons (ps_set (i := 2) nd rfl (Or.inl rfl) pe_str)
          (pss_one (ps_while PassesOwn.never (pt_not (pt_truth (pe_ix ix_list (pe_fld (pv 0) (by rfl)) (pv 1) (fun _ _ => rfl)) (by intro _; rfl))) (pss_one (ps_aug (i := 1) nd rfl (.inl rfl) pe_int ip_add)))))) pss_nil)
      (pss_cons (ps_set (i := 3) nd rfl (Or.inl rfl) (pe_bm PySem.F.plainAttrs_list PySem.F.slot_list_pop PySem.F.type_list_pop mt_popAt (pe_ix ix_list (pe_fld (pv 0) (by rfl)) (pv 1) (fun _ _ => rfl)) (pa_cons pe_int pa_nil)))
      (pss_cons (ps_set (i := 4) nd rfl (Or.inl rfl) (pe_op op_add (pe_fld (pv 0) (by rfl)) pe_int))
      (pss_cons (ps_fld (pv 0) (pv 4) (by rfl))
      (pss_cons (ps_asg (pv 4) (pg_sub (pe_fld (pv 0) (by rfl)) (pv 1) set_list))
      (pss_cons (ps_expr (pe_bm PySem.F.plainAttrs_list PySem.F.slot_list_append PySem.F.type_list_append mt_append (pe_fld (pv 0) (by rfl)) (pa_cons (pe_tup (pa_cons (pe_fld (pv 0) (by rfl)) (pa_cons pe_str (pa_cons (pe_fld (pv 3) (by rfl)) (pa_cons (pv 1) (pa_cons (pv 2) pa_nil)))))) pa_nil)))
      (pss_one (ps_if (pt_cmp (pc_notN (pe_fld (pv 3) (by rfl)))) pss_never
        (pss_one (ps_if (pt_truth (pe_fld (pv 3) (by rfl)) (by intro _; rfl)) (pss_one (ps_expr (pe_call GF hr (by rfl) CF.m CF.k CF.b .nil pass0 (pa_cons (pv 0) (pa_cons (pv 3) pa_nil))))) pss_nil))))))))))), ?_⟩
    cases ht with
    | @mk i wk rest y _ hp hq hwa hwp hbt hf =>
    obtain ⟨hno, rfl, hlt⟩ := hp
    obtain ⟨vp, hsu⟩ := m.atSu
    obtain ⟨pvs, ep, dpt⟩ := m.ar.pat
    rw [patsM_none hno] at dpt
    cases dpt
    have hpa := m.atL (t := .pat) rfl ep
    have NS : ∀ f ∈ fState, NoAttr K c.st f := X.st.n
    have NW : ∀ f ∈ fWork, NoAttr K c.wk f := X.wk.n
    refine asg_n ⟨_, rfl, L.ad .st, c.st, L.dx, _, .ref L.su, rfl, m.atS, X.st.c, NS _ (by decide), rfl, L.su, c.su, L.sdx, _, .ref (L.ad .pat), rfl, hsu, X.su.c, X.su.n _ (by decide), rfl, _, .inl ⟨_, SqL.of hpa, rfl⟩, iteF ?_⟩
    refine asg_n ?_
    have hi : i < M.queues.length := (List.getElem?_eq_some_iff.mp hq).1
    have eL : ∀ j, j < M.queues.length → ∃ vs, H (L.ad (.line j)) = some (.lst vs) ∧ Paired (RWk K c H) vs (M.queues.getD j []) := fun j hj => by
      obtain ⟨vs, h1, _, h2, _⟩ := m.atLine hj
      exact ⟨vs, h1, h2⟩
    refine gmid_of (fun σ' H' => σ' = [some (.ref (L.ad .st)), some (.int (i : Int)), some (.str "least"), none, none] ∧ H' = H) (fun N hN => ?_) ?_
    · refine ⟨_, rfl, _, rfl, iteT (asg_n (asg_n ?_))⟩
      refine while_by (fun σ H3 => (∃ j : Nat, j ≤ i ∧ σ = [some (.ref (L.ad .st)), some (.int (j : Int)), some (.str "least"), none, none]) ∧ H3 = H) (fun σ H3 => match σ[1]? with | some (some (V.int j)) => i - j.toNat | _ => 0) ⟨⟨0, Nat.zero_le _, rfl⟩, rfl⟩ ?_ ?_
      · rintro σ H3 ⟨⟨j, hj, rfl⟩, rfl⟩
        obtain ⟨vs, h1, h2⟩ := eL j (by omega)
        refine ⟨_, rfl, L.ad .st, c.st, L.dx, _, .ref (L.ad .queues), rfl, m.atS, X.st.c, NS _ (by decide), rfl, _, rfl, L.ad .queues, _, _, _, rfl, rfl, SqL.of m.atQ, atI_nat (q_at (by omega)), ?_⟩
        refine ⟨_, .inl ⟨_, SqL.of h1, rfl⟩, ?_⟩
        by_cases hij : j = i
        · subst hij
          rw [List.getD_eq_getElem?_getD, hq] at h2
          cases h2
          exact iteB0 rfl (hN _ _ ⟨rfl, rfl⟩)
        · rw [List.getD_eq_getElem?_getD, hlt j (by omega)] at h2
          cases h2
          refine iteB1 rfl ⟨_, rfl, _, _, rfl, rfl, ⟨⟨j + 1, by omega, ?_⟩, rfl⟩, ?_⟩
          · rw [show ((j + 1 : Nat) : Int) = (j : Int) + 1 by omega]; rfl
          · show i - ((j : Int) + 1).toNat < i - (j : Int).toNat
            omega
      · intro σ H3 Q1 Q2 hm
        rintro ⟨v, h1, a', C', dx', fs', v', h2, h3, h4, h5, h6, z, h7, h8⟩
        obtain ⟨a2, xs2, i2, y2, g1, g2, g3, g4, b2, g5, g6⟩ := h8
        exact ⟨v, h1, a', C', dx', fs', v', h2, h3, h4, h5, h6, z, h7, a2, xs2, i2, y2, g1, g2, g3, g4, b2, g5, hm _ _ g6⟩
    · rintro σ' H' ⟨rfl, rfl⟩
      obtain ⟨vs, hl, el, pl, ll⟩ := m.atLine hi
      have eq0 : M.queues.getD i [] = wk :: rest := by rw [List.getD_eq_getElem?_getD, hq]; rfl
      rw [eq0] at pl ll
      cases pl with
      | @cons vw _ vrest _ hw prest =>
      obtain ⟨wa, dx, vn, vsc, vt, vpl, va, rfl, hwk, d1, d2, d3, d4, d5⟩ := id hw
      refine asg_n ?_
      refine ⟨_, rfl, L.ad .st, c.st, L.dx, _, .ref (L.ad .queues), rfl, m.atS, X.st.c, NS _ (by decide), rfl, _, rfl, L.ad .queues, _, _, _, rfl, rfl, SqL.of m.atQ, atI_nat (q_at hi), ?_⟩
      refine ⟨.inl ⟨rfl, _, SqL.of hl⟩, L.ad (.line i), _, 0, 0, .ref wa, rfl, rfl, hl, by decide, by decide, seq0 _, rfl, ?_⟩
      have m1 := m.lineS 0 i vrest rest hi prest (by rw [List.length_cons] at ll; omega)
      have s1 := (Stp.refl H' L).put m.cr (m.ar.lines i _ (List.getElem?_eq_getElem hi)).1 (o := .lst vrest)
      show tSeq _ _ _ _ (L2.upd H' (L.ad (.line i)) (.lst vrest))
      have hw1 := (s1.kept m.cr) _ _ hwk (.inl rfl)
      generalize L2.upd H' (L.ad (.line i)) (.lst vrest) = H1 at m1 s1 hw1 ⊢
      refine asg_n ⟨_, rfl, L.ad .st, c.st, L.dx, _, .int (M.picks : Int), rfl, m1.atS, X.st.c, NS _ (by decide), rfl, _, _, rfl, rfl, ?_⟩
      show tSeq _ _ _ [some (.ref (L.ad .st)), some (.int (i : Int)), some (.str "least"), some (.ref wa), some (.int ((M.picks + 1 : Nat) : Int))] H1
      have m2 := m1.stS X.cn (M.picks + 1) M.numbers M.done M.clock M.flooded M.busy
      have s2 := s1.put m1.cr (m1.ar.fx .st rfl) (o := .ins c.st L.dx (stF (L.put (.line i) (.lst vrest)) { M with picks := M.picks + 1 }))
      refine fld_of ⟨_, rfl, _, rfl, L.ad .st, c.st, L.dx, _, rfl, m1.atS, X.st.c, NS _ (by decide), (show 18 < 1000 by decide), ?_⟩
      rw [put_picks]
      obtain ⟨Lb, m2, s2⟩ : ∃ Lb, MR K c (L2.upd H1 (L.ad .st) (.ins c.st L.dx (stF (L.put (.line i) (.lst vrest)) { M with picks := M.picks + 1, queues := M.queues.set i rest, ticks := M.ticks + 0 }))) Lb { M with picks := M.picks + 1, queues := M.queues.set i rest } ∧ Stp H' L (L2.upd H1 (L.ad .st) (.ins c.st L.dx (stF (L.put (.line i) (.lst vrest)) { M with picks := M.picks + 1, queues := M.queues.set i rest, ticks := M.ticks + 0 }))) Lb := ⟨_, m2, s2⟩
      show tSeq _ _ _ _ (L2.upd H1 (L.ad .st) (.ins c.st L.dx (stF (L.put (.line i) (.lst vrest)) { M with picks := M.picks + 1, queues := M.queues.set i rest, ticks := M.ticks + 0 })))
      generalize L2.upd H1 (L.ad .st) (.ins c.st L.dx (stF (L.put (.line i) (.lst vrest)) { M with picks := M.picks + 1, queues := M.queues.set i rest, ticks := M.ticks + 0 })) = H2 at m2 s2 ⊢
      have sn2 := m2.atL rfl m2.ar.since
      have b2 := m2.ar.bd
      have hil : i < ((M.since.map fun n : Nat => V.int (n : Int))).length := by
        have b2 : _ ∧ M.since.length = (M.queues.set i rest).length ∧ _ := b2
        rw [List.length_map, b2.2.1, List.length_set]; exact hi
      refine gasg ⟨_, rfl, _, rfl, Lb.ad .st, c.st, Lb.dx, _, .ref (Lb.ad .since), by rw [s2.st], m2.atS, X.st.c, NS _ (by decide), rfl, _, rfl, Lb.ad .since, _, _, i, rfl, rfl, sn2, ixN_lt hil, ?_⟩
      rw [set_nats]
      have m3 := m2.sinceS (M.since.set i (M.picks + 1)) (by rw [List.length_set])
      have s3 := s2.put m2.cr (m2.ar.fx .since rfl) (o := .lst ((M.since.set i (M.picks + 1)).map fun n : Nat => V.int (n : Int)))
      obtain ⟨evs, ee, de⟩ := m3.ar.events
      have hev := m3.atL rfl ee
      have b3 := m3.ar.bd
      have hw3 := (s3.kept m.cr) _ _ hwk (.inl rfl)
      refine gdrop_of ⟨_, rfl, Lb.ad .st, c.st, Lb.dx, _, .ref (Lb.ad .events), by rw [s2.st], m3.atS, X.st.c, NS _ (by decide), rfl, .inl ⟨rfl, _, SqL.of hev⟩, _, rfl, Lb.ad .st, c.st, Lb.dx, _, .int M.clock, by rw [s2.st], m3.atS, X.st.c, NS _ (by decide), rfl, _, rfl, wa, c.wk, dx, _, .int (wk.num : Int), rfl, hw3, X.wk.c, NW _ (by decide), rfl, _, rfl, _, rfl, by show 5 ≤ sizeLine; decide, fun p hp => ?_⟩
      obtain ⟨m4, s4, e4⟩ := m3.tell ee hp (vs := [.str "task", .int (wk.num : Int), .int (i : Int), .str "least"]) (ds := [.str "task", .int (wk.num : Int), .int (i : Int), .str "least"]) (.cons (.str _) (.cons (.int _) (.cons (.int _) (.cons (.str _) .nil))))
      refine ⟨Lb.ad .events, _, _, rfl, rfl, e4, ?_, ?_⟩
      · rw [de.len, sizeLine_eq]
        have b3 : _ ∧ _ ∧ M.events.length ≤ M.ticks ∧ _ := b3
        have hbt : M.ticks + 1 < 1000000 := hbt
        show M.events.length < _
        omega
      have s5 := s3.trans s4
      have kp := s5.kept m.cr
      have hw5 := kp _ _ hwk (.inl rfl)
      have d5' := d5.kept kp
      rw [hwa] at d5'
      cases d5'
      refine ⟨_, rfl, wa, c.wk, dx, _, .non, rfl, hw5, X.wk.c, NW _ (by decide), rfl, _, rfl, iteF ?_⟩
      obtain ⟨sa, sxs, rfl, hsc, hds⟩ := (d2.kept kp).tupI
      refine ⟨_, rfl, wa, c.wk, dx, _, .ref sa, rfl, hw5, X.wk.c, NW _ (by decide), rfl, ?_⟩
      refine ⟨_, .inr (.inl ⟨_, hsc, rfl⟩), ?_⟩
      obtain ⟨ds, eds, hds⟩ : ∃ ds, wk.script = ds ∧ DtAll K _ sxs ds := ⟨_, rfl, hds⟩
      cases hds with
      | nil =>
        rw [eds] at hf
        cases hf
        exact iteF (k _ _ m4 s5)
      | cons h1 h2 =>
        refine iteT ?_
        refine ⟨_, rfl, _, rfl, _, _, wk, M', .ref wa, ?_, m4, hw.kept kp, hwp, hf, fun H6 L6 m6 s6 => k _ _ m6 (s5.trans s6)⟩
        exact congrArg (fun a : Addr => [V.ref a, V.ref wa]) s5.st.symm
end
end My

set_option Elab.async false
set_option linter.all false
set_option maxRecDepth 100000
set_option maxHeartbeats 4000000
namespace My
open PySem L2 PyProof.Rows
/-! ### a turn -/
/-- nothing but works in lines -/
structure Calm (M : Mach) : Prop where
  ask : M.asking = none
  tim : M.timers = []
  idl : M.idles = []
  soo : M.soonest = none
inductive Turn (A : ActR) (D : Mach → Mach → Prop) (M : Mach) : Bool → Mach → Prop
  | none : Calm M → (∀ ws ∈ M.queues, ws = []) → M.micros = [] → M.opened = [] → Turn A D M false M
  | quick {M1 : Mach} : Calm M → Task A M M1 → M1.micros = [] → M1.opened = [] → M1.untold = [] → Turn A D M true M1
  | down {M1 M' : Mach} : Calm M → Task A M M1 → (M1.micros ≠ [] ∨ M1.opened ≠ [] ∨ M1.untold ≠ []) → D M1 M' → Turn A D M true M'
def spDown (K : PySem.W.Frag) (c : CC) (D : Mach → Mach → Prop) : Sp := fun vs H Q _ => ∃ (L : Ly) (M M' : Mach), vs = [.ref (L.ad .st)] ∧ MR K c H L M ∧ D M M' ∧ ∀ H' L', MR K c H' L' M' → Stp H L H' L' → Q .non H'
def spTurn (K : PySem.W.Frag) (c : CC) (A : ActR) (D : Mach → Mach → Prop) : Sp := fun vs H Q _ => ∃ (L : Ly) (M : Mach) (b : Bool) (M' : Mach), vs = [.ref (L.ad .st)] ∧ MR K c H L M ∧ Turn A D M b M' ∧ ∀ H' L', MR K c H' L' M' → Stp H L H' L' → Q (.bl b) H'
def spBw (K : PySem.W.Frag) (c : CC) : Sp := fun vs H Q _ => ∃ (L : Ly) (M : Mach), vs = [.ref (L.ad .st)] ∧ MR K c H L M ∧ M.micros = [] ∧ M.opened = [] ∧ Q (.bl false) H
section
variable {P : Program} {w : World} {K : PySem.W.Frag} {mg : Str → Option Value} {pB : Heap} {c : CC}
theorem scBw : FnScope ["state"] ["state"] (d_begin_without_works).scope := ⟨rfl, rfl, rfl, by decide +kernel, rfl, by decide +kernel, by decide +kernel⟩
theorem MR.atMi {H : Hp} {L : Ly} {M : Mach} (m : MR K c H L M) : ∃ vs, H (L.ad .micros) = some (.lst vs) ∧ vs.isEmpty = M.micros.isEmpty ∧ vs.length = M.micros.length := by
  obtain ⟨vs, e, p⟩ := m.ar.micros
  exact ⟨vs, m.atL rfl e, isEmpty_paired p, Paired.length p⟩
theorem MR.atOp {H : Hp} {L : Ly} {M : Mach} (m : MR K c H L M) : ∃ vs, H (L.ad .opened) = some (.lst vs) ∧ vs.isEmpty = M.opened.isEmpty ∧ vs.length = M.opened.length := by
  obtain ⟨vs, e, p⟩ := m.ar.opened
  exact ⟨vs, m.atL rfl e, isEmpty_paired p, Paired.length p⟩
theorem MR.atTi {H : Hp} {L : Ly} {M : Mach} (m : MR K c H L M) : ∃ vs, H (L.ad .timers) = some (.lst vs) ∧ vs.isEmpty = M.timers.isEmpty ∧ vs.length = M.timers.length := by
  obtain ⟨vs, e, p⟩ := m.ar.timers
  exact ⟨vs, m.atL rfl e, isEmpty_paired p, Paired.length p⟩
theorem MR.atId {H : Hp} {L : Ly} {M : Mach} (m : MR K c H L M) : ∃ vs, H (L.ad .idles) = some (.lst vs) ∧ vs.isEmpty = M.idles.isEmpty ∧ vs.length = M.idles.length := by
  obtain ⟨vs, e, p⟩ := m.ar.idles
  exact ⟨vs, m.atL rfl e, isEmpty_paired p, Paired.length p⟩
theorem ok_bw {f : Addr} {fd : FuncData} (F : FnDd K d_begin_without_works f fd) (X : MC K c) (mLen : mg "len" = none) : FnOk P w K mg pB CX0 1 f fd ["state"] (spBw K c) := by
  refine F.ok scBw (fun vs H Q E h => ?_) (fun cdv A outer s0 H vs Q E hr h => ?_)
  · obtain ⟨L, M, rfl, _⟩ := h
    rfl
  · obtain ⟨L, M, rfl, m, h1, h2, k⟩ := h
    have N : ∀ f ∈ fState, NoAttr K c.st f := X.st.n
    obtain ⟨vo, eo, io, _⟩ := m.atOp
    obtain ⟨vm, em, im, lm⟩ := m.atMi
    rw [h2] at io
    rw [h1] at im lm
    refine ⟨_, pss_cons (ps_if (PW.pt (pw_and (pt_truth (pe_fld (pv 0) (by rfl)) (by intro _; rfl)) (pw_and1 (pt_not (pt_truth (pe_fld (pv 0) (by rfl)) (by intro _; rfl)))))) pss_never pss_nil)
      (pss_one (ps_ret (pe_cmpR op_gt (pe_callB call_len_seq (by rfl) mLen PySem.boot_len (pa_cons (pe_fld (pv 0) (by rfl)) pa_nil)) pe_int (nomark _)))), ?_⟩
    refine ⟨_, rfl, L.ad .st, c.st, L.dx, _, .ref (L.ad .opened), rfl, m.atS, X.st.c, N _ (by decide), rfl, _, .inl ⟨_, SqL.of eo, rfl⟩, ?_⟩
    rw [io]
    refine iteB0 rfl (iteF ?_)
    refine ⟨_, rfl, L.ad .st, c.st, L.dx, _, .ref (L.ad .micros), rfl, m.atS, X.st.c, N _ (by decide), rfl, L.ad .micros, _, rfl, .inl (SqL.of em), _, _, rfl, rfl, ?_⟩
    rw [lm]
    exact k
/-- the lines of a machine, as lists in the heap -/
theorem MR.lns {H : Hp} {L : Ly} {M : Mach} (m : MR K c H L M) : ∀ l : List Nat, (∀ i ∈ l, i < M.queues.length) → ∃ xss, Paired (fun b xs => H b = some (.lst xs)) (l.map fun i => L.ad (.line i)) xss ∧ xss.map List.isEmpty = l.map fun i => (M.queues.getD i []).isEmpty
  | [], _ => ⟨[], .nil, rfl⟩
  | i :: r, h => by
    obtain ⟨vs, h1, _, h2, _⟩ := m.atLine (h i (List.mem_cons_self ..))
    obtain ⟨xss, p, e⟩ := m.lns r fun j hj => h j (List.mem_cons_of_mem _ hj)
    exact ⟨vs :: xss, .cons h1 p, by rw [List.map_cons, List.map_cons, e, isEmpty_paired h2]⟩
theorem any_empty (xss : List (List V)) : (xss.any fun xs => !xs.isEmpty) = (xss.map List.isEmpty).any (fun b => !b) := by rw [List.any_map]; rfl
theorem any_lines (M : Mach) : ((List.range M.queues.length).map fun i => (M.queues.getD i []).isEmpty).any (fun b => !b) = M.queues.any (fun ws => !ws.isEmpty) := by
  have : (List.range M.queues.length).map (fun i => (M.queues.getD i []).isEmpty) = M.queues.map List.isEmpty := by
    apply List.ext_getElem?
    intro i
    rw [List.getElem?_map, List.getElem?_map]
    by_cases h : i < M.queues.length
    · rw [List.getElem?_range h, List.getElem?_eq_getElem h]
      show some ((M.queues.getD i []).isEmpty) = _
      rw [List.getD_eq_getElem?_getD, List.getElem?_eq_getElem h]; rfl
    · rw [List.getElem?_eq_none (by rw [List.length_range]; omega), List.getElem?_eq_none (by omega)]; rfl
  rw [this, List.any_map]; rfl
abbrev nTurn : List Str := ["state", "finished", "timers"]
theorem scTurn : FnScope nTurn ["state"] (d_take_turn).scope := ⟨rfl, rfl, rfl, by decide +kernel, rfl, by decide +kernel, by decide +kernel⟩
theorem ok_turnM {f fT fB fD : Addr} {fd dT dB dD : FuncData} {kT kD : Nat} {A : ActR} {D : Mach → Mach → Prop} (F : FnDd K d_take_turn f fd) (X : MC K c)
    (GT : FnOk P w K mg pB CX0 kT fT dT ["state"] (spTask K c A)) (CT : Cal K mg "begin_task" fT dT ["state"]) (GB : FnOk P w K mg pB CX0 1 fB dB ["state"] (spBw K c)) (CB : Cal K mg "begin_without_works" fB dB ["state"])
    (GD : FnOk P w K mg pB CX0 kD fD dD ["state"] (spDown K c D)) (CD : Cal K mg "settle_down" fD dD ["state"]) (k1 : 1 ≤ kT) (kd : kD ≤ kT) (mA : mg "any" = none) : FnOk P w K mg pB CX0 (kT + 1) f fd ["state"] (spTurn K c A D) := by
  refine F.ok scTurn (fun vs H Q E h => ?_) (fun cdv A0 outer s0 H vs Q E hr h => ?_)
  · obtain ⟨L, M, b, M', rfl, _⟩ := h
    rfl
  · obtain ⟨L, M, b, M', rfl, m, ht, k⟩ := h
    have nd := scTurn.nd
    have N : ∀ f ∈ fState, NoAttr K c.st f := X.st.n
    refine ⟨_, PSs.nox <| pss_cons (ps_set (i := 1) nd rfl (Or.inl rfl) (pe_cmp (pc_notN (pe_fld (pv 0) (by rfl))) rfl))
      (pss_cons (ps_if (pt_val (pv 1)) pss_never pss_nil)
      (pss_cons (ps_set (i := 2) nd rfl (Or.inl rfl) (pe_fld (pv 0) (by rfl)))
      (pss_cons (ps_if (PW.pt (pw_or (PW.pt (pw_and (pt_truth (pv 2) (by intro _; rfl)) (pw_and1 (pt_cmpR op_le (pe_ix ix_tup (pe_ix ix_list (pv 2) pe_int (fun _ _ => rfl)) pe_int (fun _ _ => rfl)) (pe_fld (pv 0) (by rfl)) (nomark _))))) (pw_or1 (pt_cmp (pc_notN (pe_fld (pv 0) (by rfl))))))) pss_never pss_nil)
      (pss_cons (ps_if (pt_val (pe_callB (call_anyL rfl) (by rfl) mA (by decide +kernel) (pa_cons (pe_fld (pv 0) (by rfl)) pa_nil)))
        (pss_one (ps_expr (pe_call GT hr (by rfl) CT.m CT.k CT.b .nil pass0 (pa_cons (pv 0) pa_nil))))
        (pss_one (ps_if (pt_truth (pe_fld (pv 0) (by rfl)) (by intro _; rfl)) pss_never
          (pss_one (ps_if (pt_truth (pe_fld (pv 0) (by rfl)) (by intro _; rfl)) pss_never
            (pss_one (ps_if (pt_not (pt_val (pe_call GB (hr.mono k1) (by rfl) CB.m CB.k CB.b .nil pass0 (pa_cons (pv 0) pa_nil)))) (pss_one (ps_ret (pv 1))) pss_nil)))))))
      (pss_cons (ps_if (PW.pt (pw_or (pt_truth (pe_fld (pv 0) (by rfl)) (by intro _; rfl)) (pw_or (pt_truth (pe_fld (pv 0) (by rfl)) (by intro _; rfl)) (pw_or1 (pt_truth (pe_fld (pe_fld (pv 0) (by rfl)) (by rfl)) (by intro _; rfl))))))
        (pss_one (ps_expr (pe_call GD (hr.mono kd) (by rfl) CD.m CD.k CD.b .nil pass0 (pa_cons (pv 0) pa_nil)))) pss_nil)
      (pss_one (ps_ret pe_bl))))))), ?_⟩
    have calm : Calm M := by cases ht with | none h _ _ _ => exact h | quick h _ _ _ _ => exact h | down h _ _ _ => exact h
    obtain ⟨ha, h2, h3, h4⟩ := calm
    obtain ⟨vt, et, it, _⟩ := m.atTi
    obtain ⟨vi, ei, ii, _⟩ := m.atId
    rw [h2] at it
    rw [h3] at ii
    have hask : L.ask = .non := by have := m.ar.ask; rw [ha] at this; exact this
    have hl1 : (stF L M).lookup ("asking" : Str) = some V.non := by rw [← hask]; rfl
    have hl2 : (stF L M).lookup ("soonest" : Str) = some V.non := by
      show some (oIV M.soonest) = _
      rw [h4]; rfl
    refine asg_n ⟨_, rfl, L.ad .st, c.st, L.dx, _, .non, rfl, m.atS, X.st.c, N _ (by decide), hl1, ?_⟩
    refine ⟨_, rfl, _, rfl, iteF (nxt_of ?_)⟩
    refine asg_n ⟨_, rfl, L.ad .st, c.st, L.dx, _, .ref (L.ad .timers), rfl, m.atS, X.st.c, N _ (by decide), rfl, ?_⟩
    refine ⟨_, rfl, _, .inl ⟨_, SqL.of et, rfl⟩, ?_⟩
    rw [it]
    refine iteB0 rfl (iteF ⟨_, rfl, L.ad .st, c.st, L.dx, _, .non, rfl, m.atS, X.st.c, N _ (by decide), hl2, _, rfl, iteF (nxt_of ?_)⟩)
    obtain ⟨xss, px, ex⟩ := m.lns (List.range M.queues.length) fun i hi => List.mem_range.mp hi
    have hqs := m.atQ
    have eq1 : (List.range M.queues.length).map (fun i => V.ref (L.ad (.line i))) = ((List.range M.queues.length).map fun i => L.ad (.line i)).map V.ref := by rw [List.map_map]; rfl
    rw [eq1] at hqs
    refine ⟨_, rfl, L.ad .st, c.st, L.dx, _, .ref (L.ad .queues), rfl, m.atS, X.st.c, N _ (by decide), rfl, L.ad .queues, _, _, rfl, SqL.of hqs, px, _, rfl, ?_⟩
    rw [any_empty, ex, any_lines]
    have task : ∀ {M1 : Mach}, Task A M M1 → (M.queues.any fun ws => !ws.isEmpty) = true := fun {M1} h => by
      cases h with
      | @mk i wk rest y _ _ hq _ _ _ _ =>
        rw [List.any_eq_true]
        exact ⟨_, List.mem_of_getElem? hq, rfl⟩
    have go : ∀ {M1 : Mach}, Task A M M1 → (∀ H1 L1, MR K c H1 L1 M1 → Stp H L H1 L1 → ∃ b1 b2 b3 : Bool, b1 = M1.micros.isEmpty ∧ b2 = M1.opened.isEmpty ∧ b3 = M1.untold.isEmpty ∧ True) := fun _ _ _ _ _ => ⟨_, _, _, rfl, rfl, rfl, trivial⟩
    clear go
    cases ht with
    | none _ hq hm ho =>
      have : (M.queues.any fun ws => !ws.isEmpty) = false := by
        rw [List.any_eq_false]
        intro ws hws
        rw [hq ws hws]; simp
      rw [this]
      refine iteF ⟨_, rfl, L.ad .st, c.st, L.dx, _, .ref (L.ad .idles), rfl, m.atS, X.st.c, N _ (by decide), rfl, _, .inl ⟨_, SqL.of ei, rfl⟩, ?_⟩
      rw [ii]
      refine iteB0 rfl ?_
      refine ⟨_, rfl, L.ad .st, c.st, L.dx, _, .ref (L.ad .timers), rfl, m.atS, X.st.c, N _ (by decide), rfl, _, .inl ⟨_, SqL.of et, rfl⟩, ?_⟩
      rw [it]
      refine iteB0 rfl ?_
      exact ⟨_, rfl, L, M, rfl, m, hm, ho, _, rfl, iteT ⟨_, rfl, k H L m (Stp.refl H L)⟩⟩
    | @quick _ _ h5 h6 h7 h8 =>
      rw [task h5]
      refine iteT ⟨_, rfl, L, M, M', rfl, m, h5, fun H1 L1 m1 s1 => ?_⟩
      obtain ⟨vm, em, im, _⟩ := m1.atMi
      obtain ⟨vo, eo, io, _⟩ := m1.atOp
      have hu := m1.atL rfl m1.ar.untold
      rw [h6] at im
      rw [h7] at io
      rw [h8] at hu
      refine ⟨_, rfl, L1.ad .st, c.st, L1.dx, _, .ref (L1.ad .micros), by rw [s1.st], m1.atS, X.st.c, N _ (by decide), rfl, _, .inl ⟨_, SqL.of em, rfl⟩, ?_⟩
      rw [im]
      refine iteB0 rfl ?_
      refine ⟨_, rfl, L1.ad .st, c.st, L1.dx, _, .ref (L1.ad .opened), by rw [s1.st], m1.atS, X.st.c, N _ (by decide), rfl, _, .inl ⟨_, SqL.of eo, rfl⟩, ?_⟩
      rw [io]
      refine iteB0 rfl ?_
      refine ⟨_, rfl, L1.ad .st, c.st, L1.dx, _, .ref (L1.ad .bk), by rw [s1.st], m1.atS, X.st.c, N _ (by decide), rfl, L1.ad .bk, c.bk, L1.bdx, _, .ref (L1.ad .untold), rfl, m1.atB, X.bk.c, X.bk.n _ (by decide), rfl, _, .inr (.inr ⟨_, hu, rfl⟩), iteB0 rfl ?_⟩
      exact k _ _ m1 s1
    | @down M1 _ _ h5 h6 h7 =>
      rw [task h5]
      refine iteT ⟨_, rfl, L, M, M1, rfl, m, h5, fun H1 L1 m1 s1 => ?_⟩
      obtain ⟨vm, em, im, _⟩ := m1.atMi
      obtain ⟨vo, eo, io, _⟩ := m1.atOp
      have hu := m1.atL rfl m1.ar.untold
      have ev : ([V.ref (L.ad .st)] : List V) = [V.ref (L1.ad .st)] := congrArg (fun a : Addr => [V.ref a]) s1.st.symm
      refine ⟨_, rfl, L1.ad .st, c.st, L1.dx, _, .ref (L1.ad .micros), by rw [s1.st], m1.atS, X.st.c, N _ (by decide), rfl, _, .inl ⟨_, SqL.of em, rfl⟩, ?_⟩
      rw [im]
      cases e1 : M1.micros.isEmpty with
      | false => exact iteB1 rfl ⟨_, rfl, L1, M1, M', ev, m1, h7, fun H2 L' m2 s2 => k _ _ m2 (s1.trans s2)⟩
      | true =>
      refine iteB0 rfl ?_
      refine ⟨_, rfl, L1.ad .st, c.st, L1.dx, _, .ref (L1.ad .opened), by rw [s1.st], m1.atS, X.st.c, N _ (by decide), rfl, _, .inl ⟨_, SqL.of eo, rfl⟩, ?_⟩
      rw [io]
      cases e2 : M1.opened.isEmpty with
      | false => exact iteB1 rfl ⟨_, rfl, L1, M1, M', ev, m1, h7, fun H2 L' m2 s2 => k _ _ m2 (s1.trans s2)⟩
      | true =>
      refine iteB0 rfl ?_
      have h6 : M1.untold ≠ [] := (h6.resolve_left fun z => z (List.isEmpty_iff.mp e1)).resolve_left fun z => z (List.isEmpty_iff.mp e2)
      have e3 : (kvD vT M1.untold).isEmpty = false := by
        cases hz : M1.untold with
        | nil => exact absurd hz h6
        | cons _ _ => rfl
      refine ⟨_, rfl, L1.ad .st, c.st, L1.dx, _, .ref (L1.ad .bk), by rw [s1.st], m1.atS, X.st.c, N _ (by decide), rfl, L1.ad .bk, c.bk, L1.bdx, _, .ref (L1.ad .untold), rfl, m1.atB, X.bk.c, X.bk.n _ (by decide), rfl, _, .inr (.inr ⟨_, hu, rfl⟩), ?_⟩
      rw [e3]
      exact iteB1 rfl ⟨_, rfl, L1, M1, M', ev, m1, h7, fun H2 L' m2 s2 => k _ _ m2 (s1.trans s2)⟩
end
end My

set_option Elab.async false
set_option linter.all false
set_option maxRecDepth 100000
set_option maxHeartbeats 4000000
namespace My
open PySem L2 PyProof.Rows
/-! ### what a loop is asked -/
def IsLp (c : CC) (H : Hp) (lp : Addr) (L : Ly) : Prop := ∃ ldx, H lp = some (.ins c.lp ldx [("state", .ref (L.ad .st))])
inductive Turns (A : ActR) (D : Mach → Mach → Prop) : Nat → Mach → Nat → Mach → Prop
  | max {M : Mach} : Turns A D 0 M 0 M
  | stop {n : Nat} {M M' : Mach} : Turn A D M false M' → Turns A D (n + 1) M 0 M'
  | more {n k : Nat} {M M1 M' : Mach} : Turn A D M true M1 → Turns A D n M1 k M' → Turns A D (n + 1) M (k + 1) M'
def spTurnL (K : PySem.W.Frag) (c : CC) (A : ActR) (D : Mach → Mach → Prop) : Sp := fun vs H Q _ => ∃ (lp : Addr) (L : Ly) (M : Mach) (b : Bool) (M' : Mach), vs = [.ref lp] ∧ IsLp c H lp L ∧ MR K c H L M ∧ M.busy = false ∧ Turn A D M b M' ∧ ∀ H' L', MR K c H' L' M' → Stp H L H' L' → Q (.bl b) H'
def spTurns (K : PySem.W.Frag) (c : CC) (A : ActR) (D : Mach → Mach → Prop) : Sp := fun vs H Q _ => ∃ (lp : Addr) (L : Ly) (M : Mach) (n k : Nat) (M' : Mach), vs = [.ref lp, .int (n : Int)] ∧ IsLp c H lp L ∧ MR K c H L M ∧ M.busy = false ∧ Turns A D n M k M' ∧ ∀ H' L', MR K c H' L' M' → Stp H L H' L' → Q (.int (k : Int)) H'
def spFin (K : PySem.W.Frag) (c : CC) (f : Mach → V) : Sp := fun vs H Q _ => ∃ (lp : Addr) (L : Ly) (M : Mach), vs = [.ref lp] ∧ IsLp c H lp L ∧ MR K c H L M ∧ Q (f M) H
def spJour (K : PySem.W.Frag) (c : CC) : Sp := fun vs H Q _ => ∃ (lp : Addr) (L : Ly) (M : Mach), vs = [.ref lp] ∧ IsLp c H lp L ∧ MR K c H L M ∧ ∀ (D : Addr) (xs : List V) (H' : Hp), H D = none → Same H H' → H' D = some (.lst xs) → DtAll K H' xs M.events → Q (.ref D) H'
section
variable {P : Program} {w : World} {K : PySem.W.Frag} {mg : Str → Option Value} {pB : Heap} {c : CC} {A : ActR} {D : Mach → Mach → Prop}
theorem rdL {H : Hp} {L : Ly} {lp : Addr} {σ : L2.St} {Q : VK} {i : Nat} (Y : LC K c) (h : IsLp c H lp L) (hσ : σ[i]? = some (some (.ref lp))) (k : Q (.ref (L.ad .st)) H) : tFld K (tVar i) "state" σ H Q := by
  obtain ⟨ldx, e⟩ := h
  exact ⟨_, hσ, lp, c.lp, ldx, _, _, rfl, e, Y.lp.c, Y.lp.n _ (by decide), rfl, k⟩
theorem scTurnL : FnScope ["self", "state"] ["self"] (d_Loop_turn).scope := ⟨rfl, rfl, rfl, by decide +kernel, rfl, by decide +kernel, by decide +kernel⟩
theorem lk_busy (L : Ly) {M : Mach} (h : M.busy = false) : (stF L M).lookup ("busy" : Str) = some (V.bl false) := by rw [← h]; rfl
theorem ok_turn {f fT : Addr} {fd dT : FuncData} {kT : Nat} (F : FnDd K d_Loop_turn f fd) (X : MC K c) (Y : LC K c) (GT : FnOk P w K mg pB CX0 kT fT dT ["state"] (spTurn K c A D)) (CT : Cal K mg "take_turn" fT dT ["state"]) : FnOk P w K mg pB CX0 (kT + 1) f fd ["self"] (spTurnL K c A D) := by
  refine F.ok scTurnL (fun vs H Q E h => ?_) (fun cdv A0 outer s0 H vs Q E hr h => ?_)
  · obtain ⟨lp, L, M, b, M', rfl, _⟩ := h
    rfl
  · obtain ⟨lp, L, M, b, M', rfl, hlp, m, hb, ht, k⟩ := h
    have nd := scTurnL.nd
    refine ⟨_, pss_cons (ps_set (i := 1) nd rfl (Or.inl rfl) (pe_fld (pv 0) (by rfl))) (pss_cons (ps_if (pt_val (pe_fld (pv 1) (by rfl))) pss_never pss_nil) (pss_one (ps_ret (pe_call GT hr (by rfl) CT.m CT.k CT.b .nil pass0 (pa_cons (pv 1) pa_nil))))), ?_⟩
    refine asg_n (rdL Y hlp rfl ?_)
    refine ⟨_, rfl, L.ad .st, c.st, L.dx, _, .bl false, rfl, m.atS, X.st.c, X.st.n _ (by decide), lk_busy L hb, _, rfl, iteF ?_⟩
    exact ⟨_, rfl, L, M, b, M', rfl, m, ht, k⟩
abbrev nTurns : List Str := ["self", "most", "state", "many"]
theorem scTurns : FnScope nTurns ["self", "most"] (d_Loop_turns).scope := ⟨rfl, rfl, rfl, by decide +kernel, rfl, by decide +kernel, by decide +kernel⟩
theorem ok_turns {f fT : Addr} {fd dT : FuncData} {kT : Nat} (F : FnDd K d_Loop_turns f fd) (X : MC K c) (Y : LC K c) (GT : FnOk P w K mg pB CX0 kT fT dT ["state"] (spTurn K c A D)) (CT : Cal K mg "take_turn" fT dT ["state"]) : FnOk P w K mg pB CX0 (kT + 1) f fd ["self", "most"] (spTurns K c A D) := by
  refine F.ok scTurns (fun vs H Q E h => ?_) (fun cdv A0 outer s0 H vs Q E hr h => ?_)
  · obtain ⟨lp, L, M, n, k, M', rfl, _⟩ := h
    rfl
  · obtain ⟨lp, L, M, n, k0, M', rfl, hlp, m, hb, ht, k⟩ := h
    have nd := scTurns.nd
    refine ⟨_, PSs.nox <| pss_cons (ps_set (i := 2) nd rfl (Or.inl rfl) (pe_fld (pv 0) (by rfl))) (pss_cons (ps_if (pt_val (pe_fld (pv 2) (by rfl))) pss_never pss_nil)
      (pss_cons (ps_set (i := 3) nd rfl (Or.inl rfl) pe_int)
      (pss_cons (ps_while PassesOwn.never (PW.pt (pw_and (pt_cmpR op_lt (pv 3) (pv 1) (nomark _)) (pw_and1 (pt_val (pe_call GT hr (by rfl) CT.m CT.k CT.b .nil pass0 (pa_cons (pv 2) pa_nil))))))
        (pss_one (ps_aug (i := 3) nd rfl (.inl rfl) pe_int ip_add)))
      (pss_one (ps_ret (pv 3)))))), ?_⟩
    refine asg_n (rdL Y hlp rfl ?_)
    refine ⟨_, rfl, L.ad .st, c.st, L.dx, _, .bl false, rfl, m.atS, X.st.c, X.st.n _ (by decide), lk_busy L hb, _, rfl, iteF (nxt_of ?_)⟩
    refine asg_n ?_
    refine gmid_of (fun σ' H' => σ'[3]? = some (some (.int (k0 : Int))) ∧ ∃ L', MR K c H' L' M' ∧ Stp H L H' L') (fun N hN => ?_) ?_
    · refine gwhile (m0 := n) (fun j σ' H' => ∃ (dn k1 : Nat) (L1 : Ly) (M1 : Mach), σ' = [some (.ref lp), some (.int (n : Int)), some (.ref (L.ad .st)), some (.int (dn : Int))] ∧ MR K c H' L1 M1 ∧ Stp H L H' L1 ∧ Turns A D j M1 k1 M' ∧ dn + j = n ∧ dn + k1 = k0)
        (fun j σ' H' b H1 => if b = true then ∃ (dn k1 j' : Nat) (L1 : Ly) (M1 : Mach), j = j' + 1 ∧ σ' = [some (.ref lp), some (.int (n : Int)), some (.ref (L.ad .st)), some (.int (dn : Int))] ∧ MR K c H1 L1 M1 ∧ Stp H L H1 L1 ∧ Turns A D j' M1 k1 M' ∧ dn + (j' + 1) = n ∧ dn + (k1 + 1) = k0
          else σ'[3]? = some (some (.int (k0 : Int))) ∧ ∃ L', MR K c H1 L' M' ∧ Stp H L H1 L') ?_ ?_ ?_ ?_
      · exact ⟨0, k0, L, M, rfl, m, Stp.refl H L, ht, by omega, by omega⟩
      · rintro j σ' H' ⟨dn, k1, L1, M1, rfl, m1, s1, h1, h2, h3⟩ C hC
        refine ⟨_, rfl, _, rfl, _, _, rfl, rfl, _, rfl, ?_⟩
        cases h1 with
        | max =>
          refine iteN (by show ¬ ((dn : Int) < (n : Int)); omega) (hC _ _ ?_)
          rw [if_neg (by decide)]
          exact ⟨by rw [show k0 = dn by omega]; rfl, L1, m1, s1⟩
        | @stop j' _ _ h4 =>
          refine iteY (show (dn : Int) < (n : Int) by omega) ?_
          refine ⟨_, rfl, L1, M1, false, M', congrArg (fun a : Addr => [V.ref a]) s1.st.symm, m1, h4, fun H2 Lb m2 s2 => ⟨_, rfl, hC _ _ ?_⟩⟩
          rw [if_neg (by decide)]
          exact ⟨by rw [show k0 = dn by omega]; rfl, Lb, m2, s1.trans s2⟩
        | @more j' k' _ M2 _ h4 h5 =>
          refine iteY (show (dn : Int) < (n : Int) by omega) ?_
          refine ⟨_, rfl, L1, M1, true, M2, congrArg (fun a : Addr => [V.ref a]) s1.st.symm, m1, h4, fun H2 Lb m2 s2 => ⟨_, rfl, hC _ _ ?_⟩⟩
          rw [if_pos rfl]
          exact ⟨dn, k', j', Lb, M2, rfl, rfl, m2, s1.trans s2, h5, h2, h3⟩
      · rintro j σ' H' H1 _ hR
        rw [if_pos rfl] at hR
        obtain ⟨dn, k1, j', L1, M1, rfl, rfl, m1, s1, h1, h2, h3⟩ := hR
        refine ⟨_, rfl, _, _, rfl, rfl, j', Nat.lt_succ_self _, dn + 1, k1, L1, M1, ?_, m1, s1, h1, by omega, by omega⟩
        rw [show ((dn + 1 : Nat) : Int) = (dn : Int) + 1 by omega]
        rfl
      · rintro j σ' H' H1 _ hR
        rw [if_neg (by decide)] at hR
        exact hN _ _ hR
    · rintro σ' H' ⟨h3, L', m', s'⟩
      exact ⟨_, h3, k _ _ m' s'⟩
theorem scJour : FnScope ["self"] ["self"] (d_Loop_journal).scope := ⟨rfl, rfl, rfl, by decide +kernel, rfl, by decide +kernel, by decide +kernel⟩
theorem ok_jour {f : Addr} {fd : FuncData} (F : FnDd K d_Loop_journal f fd) (X : MC K c) (Y : LC K c) (mLi : mg "list" = none) : FnOk P w K mg pB CX0 1 f fd ["self"] (spJour K c) := by
  refine F.ok scJour (fun vs H Q E h => ?_) (fun cdv A0 outer s0 H vs Q E hr h => ?_)
  · obtain ⟨lp, L, M, rfl, _⟩ := h
    rfl
  · obtain ⟨lp, L, M, rfl, hlp, m, k⟩ := h
    refine ⟨_, pss_one (ps_ret (pe_callTy call_list_of (by rfl) mLi (by decide +kernel) (pa_cons (pe_fld (pe_fld (pv 0) (by rfl)) (by rfl)) pa_nil))), ?_⟩
    obtain ⟨evs, ee, de⟩ := m.ar.events
    obtain ⟨ldx, el⟩ := hlp
    refine ⟨_, rfl, lp, c.lp, ldx, _, .ref (L.ad .st), rfl, el, Y.lp.c, Y.lp.n _ (by decide), rfl, L.ad .st, c.st, L.dx, _, .ref (L.ad .events), rfl, m.atS, X.st.c, X.st.n _ (by decide), rfl, L.ad .events, _, rfl, .inl (SqL.of (m.atL rfl ee)), fun l hl => ?_⟩
    have s1 := Same.new (o := .lst evs) (Same.refl H) hl
    exact k l evs _ hl s1 upd_same (de.kept (Kept.of (c := c) s1))
theorem scNow : FnScope ["self"] ["self"] (d_Loop_now).scope := ⟨rfl, rfl, rfl, by decide +kernel, rfl, by decide +kernel, by decide +kernel⟩
theorem ok_now {f : Addr} {fd : FuncData} (F : FnDd K d_Loop_now f fd) (X : MC K c) (Y : LC K c) : FnOk P w K mg pB CX0 1 f fd ["self"] (spFin K c fun M => .int M.clock) := by
  refine F.ok scNow (fun vs H Q E h => ?_) (fun cdv A0 outer s0 H vs Q E hr h => ?_)
  · obtain ⟨lp, L, M, rfl, _⟩ := h
    rfl
  · obtain ⟨lp, L, M, rfl, ⟨ldx, el⟩, m, k⟩ := h
    refine ⟨_, pss_one (ps_ret (pe_fld (pe_fld (pv 0) (by rfl)) (by rfl))), ?_⟩
    exact ⟨_, rfl, lp, c.lp, ldx, _, .ref (L.ad .st), rfl, el, Y.lp.c, Y.lp.n _ (by decide), rfl, L.ad .st, c.st, L.dx, _, .int M.clock, rfl, m.atS, X.st.c, X.st.n _ (by decide), rfl, k⟩
end
end My

set_option Elab.async false
set_option linter.all false
set_option maxRecDepth 100000
set_option maxHeartbeats 4000000
namespace My
open PySem PySem.W PySem.Calls PyProof.Rows
/-- what the mro behind a class must have, for B's own maker -/
structure Tail (B : String) (bm : List Value) : Prop where
  has : bm.contains (.type B) = true
  noA : bm.contains (.type "AttributeError") = false
  noN : bm.contains (.type "NameError") = false
/-- what __init__ of the built-in class T is -/
structure InitF (T initId : String) : Prop where
  plain : Slot T "__init__" initId
  entry : entryFor table initId = some Builtin.«BaseException.__init__»
  split : splitId initId = some (T, "__init__")
  kind : builtinKind initId = some .slot
  row : Manifest.signature? initId = some ⟨.positional, "*", T, .self, [⟨"args", .varPos, false⟩]⟩
  star : (T != "*") = true
theorem InitF.of {T newId initId : String} (F : ExcCallFacts T newId initId) : InitF T initId :=
  ⟨F.init, F.initEntry, F.initSplit, F.initKind, F.initRow, F.noStar⟩
theorem initKey : InitF "KeyError" "KeyError.__init__" where
  plain := by
    refine .of (owner := "KeyError") (n := "__init__") ?_ ?_ ?_ ?_ ?_ ?_
    · rw [typeLookup_type, builtinLookup_eq_fast]; kernel_rfl
    · decide +kernel
    · decide +kernel
    · decide +kernel
    · first | exact .inl (by decide +kernel) | exact .inr (by decide +kernel)
    · rw [isSubtype_type]; kernel_rfl
  entry := by
    refine entryFor_alias (id' := "BaseException.__init__") ?_ ?_ ?_ ?_
    · rw [fastTable_eq_tree]; kernel_rfl
    · first | rfl | decide +kernel
    · decide +kernel
    · rw [fastTable_eq_tree]; kernel_rfl
  split := by kernel_rfl
  kind := by kernel_rfl
  row := by kernel_rfl
  star := by decide +kernel
abbrev keyTail : List Value := [.type "KeyError", .type "LookupError", .type "Exception", .type "BaseException", .type "object"]
theorem storeKey : StoreFacts "KeyError" keyTail "object.__setattr__" "object" := by
  refine { mro := ?a, slot := ?b, entry := F.entry_object_sa, kind := ?c, split := ?d, hasOwner := ?e, args := ?f, passes := ?g }
  case a => kernel_rfl
  case b =>
    refine .of (owner := "object") (n := "__setattr__") ?_ ?_ ?_ ?_ ?_ ?_
    · rw [typeLookup_type, builtinLookup_eq_fast]; kernel_rfl
    · decide +kernel
    · decide +kernel
    · decide +kernel
    · first | exact .inl (by decide +kernel) | exact .inr (by decide +kernel)
    · rw [isSubtype_type]; kernel_rfl
  case c => decide +kernel
  case d => decide +kernel
  case e => decide +kernel
  case f => intro a b c; unfold argsOk; kernel_rfl
  case g => intro self; kernel_rfl

section
variable {M : Model} {prog : Program} {w : World} {A : Around} {E : Value → Shared → Prop} {R : Result → Shared → Prop}
variable {h : Heap} {g : Array GenState} {d : Drawn} {t : Nat} {os : OsState}
variable {nm q : Str} {C N : Addr} {bs bm bmB : List Value} {hdct : Bool} {sn : List Str} {sub : List Value}
variable {ab : Bool} {col : Option Bool} {dd : Option Addr} {k0 k1 k2 k3 k5 : Option Value} {B newId initId T : String}
abbrev raw (C t : Addr) : Obj := { cls := .ref C, data := .fields #[.ref t, .none, .none, .none, .bool false, .none] }
theorem chkNew (F : ExcBaseFacts B newId initId bmB) (hT : Tail B bm) {rest : List Value} {kw : List (Str × Value)} {Q : Unit → Shared → Prop}
    (hC : h.get? C = some (excClassObj nm q C N bs bm hdct sn sub ab col dd k0 k1 k2 k3 k5 newId))
    (hq : Q () ⟨h, g, d, t, os⟩) : wpAny M A (checkBuiltinCall newId ⟨.ref C :: rest, kw⟩) Q E ⟨h, g, d, t, os⟩ := by
  have c1 : (Value.ref C :: bm).contains (.type B) = true := by
    rw [List.contains_cons, hT.has, Bool.or_true]
  have c2 := F.noStar
  simp only [checkBuiltinCall, F.newKind, F.newSplit, F.newRow]
  repeat (first
    | refine wpAny_loadPart_at hC ?_
    | (refine wpAny_isSubtype_exc hC ?_; rw [c1])
    | refine wpAny_staticBase_exc hC ?_
    | refine wpAny_madeBy_exc hC ?_
    | simp only [bne_self_eq_false, Bool.false_eq_true, if_false]
    | wp_step)
  exact hq
theorem newIt (F : ExcBaseFacts B newId initId bmB) (hT : Tail B bm) {rest : List Value} {kw : List (Str × Value)}
    (hC : h.get? C = some (excClassObj nm q C N bs bm hdct sn sub ab col dd k0 k1 k2 k3 k5 newId)) (hz : rest.length ≤ sizeLine)
    (hq : R (.ok (.ret (.ref (h.objs.size + 1)))) ⟨(h.push { cls := .type "tuple", data := .seq rest.toArray }).push (raw C h.objs.size), g, d, t, os⟩) :
    codeAny (model prog w) A (.builtin newId ⟨.ref C :: rest, kw⟩) R ⟨h, g, d, t, os⟩ := by
  have e0 := F.ends
  have e1 : (Value.ref C :: bm).contains (.type B) = true := by
    rw [List.contains_cons, hT.has, Bool.or_true]
  have e2 : (Value.ref C :: bm).contains (.type "AttributeError") = false := by
    rw [List.contains_cons, hT.noA]; rfl
  have e3 : (Value.ref C :: bm).contains (.type "NameError") = false := by
    rw [List.contains_cons, hT.noN]; rfl
  refine codeAny_builtinAt F.entry ?_
  unfold Builtin.«BaseException.__new__»
  refine PySem.wpAt_bind ?_
  show PySem.wpAt _ _ _ (stack >>= _) _ _ _
  refine PySem.wpAt_bind (PySem.wpAt_stack fun p below => PySem.wpAt_of_wpAny ?_)
  wp_walk
  refine PySem.wpAt_of_wpAny ?_
  rw [F.owner]
  repeat (first
    | with_reducible refine wpAny_madeHere_exc F.canon hC ?_
    | with_reducible refine wpAny_loadPart_at hC ?_
    | (with_reducible refine wpAny_isSubtype_exc hC ?_
       first | rw [e1] | rw [e2] | rw [e3])
    | wp_step)
  show R _ _
  rw [Heap.size_push]
  exact hq
theorem typeIt (F : ExcBaseFacts B newId initId bmB) (hT : Tail B bm) {rest : List Value} {kw : List (Str × Value)} {fI : Addr} {Q : Fin → Shared → Prop}
    (hC : h.get? C = some (excClassObj nm q C N bs bm hdct sn sub ab col dd k0 k1 k2 k3 k5 newId))
    (hi : Looks (model prog w) h (typeLookup (.ref C) "__init__") (some (.ref fI)))
    (hb : ∀ self, Looks (model prog w) h (bindSpecial (.ref fI) self) (.ref fI, [self])) (hz : rest.length ≤ sizeLine)
    (hq : codeAny (model prog w) A (.call (.ref fI) ⟨.ref (h.objs.size + 1) :: rest, kw⟩)
      (fun r s' => match r with | .ok (.ret v) => v = .none ∧ Q (.done (.ret (.ref (h.objs.size + 1)))) s' | .ok _ => False | .error e => E e s')
      ⟨(h.push (kdv_tup rest)).push (raw C h.objs.size), g, d, t, os⟩) :
    wpAny (model prog w) A (Builtin.«type.__call__» ⟨.ref C :: rest, kw⟩) Q E ⟨h, g, d, t, os⟩ := by
  repeat (first
    | with_reducible refine wpAny_loadPart_at hC ?_
    | with_reducible refine wpAny_madeBy_exc hC ?_
    | wp_step)
  refine codeAny_call_builtin_code (Code.quiet_builtin _ F.quiet) (chkNew F hT hC ?_)
  refine newIt F hT hC hz ?_
  show wpAny _ _ _ _ _ _
  have kk : ∀ b o, h.get? b = some o → ((h.push (kdv_tup rest)).push (raw C h.objs.size)).get? b = some o := fun b o e =>
    Heap.get?_push_of_some _ (Heap.get?_push_of_some _ e)
  have hC1 := kk _ _ hC
  have at1 : ((h.push (kdv_tup rest)).push (raw C h.objs.size)).get? (h.objs.size + 1) = some (raw C h.objs.size) := by
    heap_get
  have cc : (Value.ref C :: bm).contains (.ref C) = true := by simp
  have l1 := hi.keeps kk
  have l2 := (hb (.ref (h.objs.size + 1))).keeps kk
  unfold isInstance
  repeat (first
    | with_reducible refine wpAny_loadPart_at at1 ?_
    | (with_reducible refine wpAny_isSubtype_exc hC1 ?_; rw [cc])
    | wp_step)
  show wpAny _ _ (typeLookup (.ref C) _) _ _ _
  refine l1.at ?_
  refine wpAny_holding (wpAny_bind (l2.at ?_))
  refine wpAny_bind (wpAny_call (codeAny_mono hq fun r s' z => ?_))
  rcases r with e | (v | _ | _ | _) <;> first | exact z | exact z.elim | skip
  obtain ⟨rfl, z⟩ := z
  first
    | exact wpAny_pure (wpAny_pure z)
    | (wp_walk; exact z)
theorem chkCall {rest : List Value} {kw : List (Str × Value)} {Q : Unit → Shared → Prop}
    (hC : h.get? C = some (excClassObj nm q C N bs bm hdct sn sub ab col dd k0 k1 k2 k3 k5 newId))
    (hq : Q () ⟨h, g, d, t, os⟩) : wpAny M A (checkBuiltinCall "type.__call__" ⟨.ref C :: rest, kw⟩) Q E ⟨h, g, d, t, os⟩ := by
  have f3 := tc_sub
  have hT : (⟨h, g, d, t, os⟩ : Shared).TypeIs (.ref C) "type" := ⟨_, hC, rfl⟩
  simp only [checkBuiltinCall, tc_kind, tc_split]
  repeat (any_goals (first
    | assumption
    | with_reducible refine wpAny_loadPart_at hC ?_
    | with_reducible refine wpAny_onRaise ?_
    | with_reducible refine wpAny_map ?_
    | wp_step))
theorem callIt (F : ExcBaseFacts B newId initId bmB) (hT : Tail B bm) {rest : List Value} {kw : List (Str × Value)} {fI : Addr}
    (hC : h.get? C = some (excClassObj nm q C N bs bm hdct sn sub ab col dd k0 k1 k2 k3 k5 newId))
    (hi : Looks (model prog w) h (typeLookup (.ref C) "__init__") (some (.ref fI)))
    (hb : ∀ self, Looks (model prog w) h (bindSpecial (.ref fI) self) (.ref fI, [self])) (hz : rest.length ≤ sizeLine)
    (hq : codeAny (model prog w) (A.under (.builtin "type.__call__" ⟨.ref C :: rest, kw⟩)) (.call (.ref fI) ⟨.ref (h.objs.size + 1) :: rest, kw⟩) (InitBack (h.objs.size + 1) R)
      ⟨(h.push (kdv_tup rest)).push (raw C h.objs.size), g, d, t, os⟩) :
    codeAny (model prog w) A (.call (.ref C) ⟨rest, kw⟩) R ⟨h, g, d, t, os⟩ := by
  have f1 := tc_lookup
  have f2 := tc_bind (.ref C)
  have ty : (⟨h, g, d, t, os⟩ : Shared).TypeIs (.ref C) "type" := ⟨_, hC, rfl⟩
  refine codeAny_of_tree ?_
  show wpAny _ _ (callAny (.ref C) _) _ _ _
  repeat (any_goals (first
    | assumption
    | with_reducible refine wpAny_loadPart_at hC ?_
    | wp_step))
  refine ⟨rfl, ?_⟩
  refine codeAny_call_builtin_at (Code.quiet_builtin _ (by decide +kernel)) entry_typeCall (chkCall hC (typeIt F hT hC hi hb hz ?_))
  refine codeAny_mono hq fun r s' z => ?_
  rcases r with e | (v | _ | _ | _) <;> exact z
/-- T.__init__(e, ..), T a built-in class that the class of e has: the args are laid anew -/
theorem initIt (F : InitF T initId) (hT : bm.contains (.type T) = true) {e t0 : Addr} {rest : List Value}
    (hC : h.get? C = some (excClassObj nm q C N bs bm hdct sn sub ab col dd k0 k1 k2 k3 k5 newId))
    (he : h.get? e = some (raw C t0)) (hz : rest.length ≤ sizeLine)
    (hq : ∀ h' t1, (∀ b o, b ≠ e → h.get? b = some o → h'.get? b = some o) → h'.get? e = some (raw C t1) → R (.ok (.ret .none)) ⟨h', g, d, t, os⟩) :
    codeAny (model prog w) A (.call (.builtin initId) ⟨.ref e :: rest, []⟩) R ⟨h, g, d, t, os⟩ := by
  have c1 : (Value.ref C :: bm).contains (.type T) = true := by
    rw [List.contains_cons, hT, Bool.or_true]
  have c2 := F.star
  have chk : ∀ {M : Model} {A : Around} {E : Value → Shared → Prop} {Q : Unit → Shared → Prop}, Q () ⟨h, g, d, t, os⟩ → wpAny M A (checkBuiltinCall initId ⟨.ref e :: rest, []⟩) Q E ⟨h, g, d, t, os⟩ := by
    intro M A E Q hQ
    simp only [checkBuiltinCall, F.kind, F.split, F.row]
    repeat (first
      | with_reducible refine wpAny_loadPart_at he ?_
      | with_reducible refine wpAny_loadPart_at hC ?_
      | (with_reducible refine wpAny_isSubtype_exc hC ?_; rw [c1])
      | wp_step)
    refine wpAny_onRaise ?_
    rw [show ∀ (a b : String) (n : Nat), Bind.check ⟨.positional, "*", T, .self, [⟨"args", .varPos, false⟩]⟩ a b n (List.map (fun x => x.fst) ({ pos := Value.ref e :: rest } : Args).kw) = pure ()
      from fun a b n => check_star_args _ _ _ _ _ _]
    exact wpAny_pure hQ
  refine codeAny_call_builtin F.plain.plain F.entry (chk ?_)
  wp_walk
  refine hq _ h.objs.size (fun b o hb ho => ?_) ?_
  · rw [Heap.get?_update_other _ _ (Ne.symm hb)]
    exact Heap.get?_push_of_some _ ho
  · rw [Heap.get?_update_self _ (Heap.get?_push_of_some _ he) rfl]
    rfl
end

/-! ### self.f = v -/
section
open Builtin Builtin.ObjectAttr
variable {prog : Program} {w : World} {A : Around} {E : Value → Shared → Prop} {R : Result → Shared → Prop}
variable {hp : Heap} {g : Array GenState} {d : Drawn} {t : Nat} {os : OsState} {K : Frag} {B : String} {bmB : List Value}
theorem setNew (SF : StoreFacts B bmB "object.__setattr__" "object") {name : Str} {tk : Tok} {v : Value} {x C : Addr} {fv : Array Value}
    (X : K.In hp) (hx : hp.get? x = some { cls := .ref C, data := .fields fv }) (ov : excOver K C bmB = true) (hd : hasDictIn K C = true) (ht : takerIn K C name = some none)
    (hq : ∀ h' tk' dx, (∀ b o, b ≠ x → hp.get? b = some o → h'.get? b = some o) → hp.objs.size ≤ dx → dx ≠ x →
      h'.get? x = some { cls := .ref C, dict := some dx, data := .fields fv } →
      h'.Ns1 dx (fun y => if y = name then some v else none) → R (.ok (.ret .none)) ⟨h', g, d, tk', os⟩) :
    codeAny (model prog w) A (.call (.builtin "object.__setattr__") ⟨[.ref x, .str name tk, v], []⟩) R ⟨hp, g, d, t, os⟩ := by
  have I : InstAt hp x { cls := .ref C, data := .fields fv } C none := ⟨hx, rfl, rfl, trivial⟩
  have xs : x ≠ hp.objs.size := Nat.ne_of_lt (Heap.lt_size hx)
  obtain ⟨cd, hcd, hh⟩ := any_some hd
  have hcls : Looks (model prog w) hp (classData C) cd := looks_clsIn X hcd
  refine osa_openX (s := ⟨hp, g, d, t, os⟩) SF X I ov ht fun b => ?_
  show wpAny _ _ (storeInOwnDict (.ref x) (.ref C) (.str name tk) name v b) _ _ _
  obtain ⟨nm, bs, mro, ns, qn, hd', sn, sb, ab, col, del⟩ := cd
  have hh' : hd' = true := hh
  subst hh'
  unfold storeInOwnDict ownDictForStores
  repeat (first
    | with_reducible refine HandSPX.store_in_new ?_ ?_
    | with_reducible refine wpAny_loadPart_at hx ?_
    | with_reducible refine hcls.at ?_
    | wp_step)
  · exact ⟨_, #[], _, (Heap.get?_update_ne _ _ _ _ xs.symm).trans (Heap.get?_push_at rfl rfl), rfl, fun e he => absurd he (by simp), fun _ => rfl⟩
  · intro h' tk' hn' hs
    have hx1 : (hp.push { cls := .type "dict", data := .dict #[] }).get? x = some { cls := .ref C, data := .fields fv } :=
      Heap.get?_push_of_some _ hx
    refine hq h' tk' hp.objs.size (fun b o hb ho => ?_) (Nat.le_refl _) xs.symm ?_ hn'
    · exact (hs.2 b (Nat.ne_of_lt (Heap.lt_size ho))).trans ((Heap.get?_update_ne _ _ _ _ hb).trans (Heap.get?_push_of_some _ ho))
    · exact (hs.2 x xs).trans (Heap.get?_update_self _ hx1 rfl)
theorem setOld (SF : StoreFacts B bmB "object.__setattr__" "object") {name : Str} {tk : Tok} {v : Value} {x C dx : Addr} {fv : Array Value} {m0 : Str → Option Value} {nl : List Str}
    (X : K.In hp) (hx : hp.get? x = some { cls := .ref C, dict := some dx, data := .fields fv }) (hns : hp.Ns1 dx m0) (hw : Within m0 nl) (hz : nl.length ≤ 1000)
    (ov : excOver K C bmB = true) (hd : hasDictIn K C = true) (ht : takerIn K C name = some none)
    (hq : ∀ h' tk', (∀ b o, b ≠ dx → hp.get? b = some o → h'.get? b = some o) → h'.Ns1 dx (fun y => if y = name then some v else m0 y) → R (.ok (.ret .none)) ⟨h', g, d, tk', os⟩) :
    codeAny (model prog w) A (.call (.builtin "object.__setattr__") ⟨[.ref x, .str name tk, v], []⟩) R ⟨hp, g, d, t, os⟩ := by
  obtain ⟨oD, esD, epD, hoD, hdD, _⟩ := hns.count hw
  have I : InstAt hp x { cls := .ref C, dict := some dx, data := .fields fv } C (some oD) := ⟨hx, rfl, rfl, hoD⟩
  obtain ⟨cd, hcd, hh⟩ := any_some hd
  have hcls : Looks (model prog w) hp (classData C) cd := looks_clsIn X hcd
  refine osa_openX (s := ⟨hp, g, d, t, os⟩) SF X I ov ht fun b => ?_
  show wpAny _ _ (storeInOwnDict (.ref x) (.ref C) (.str name tk) name v b) _ _ _
  obtain ⟨nm, bs, mro, ns, qn, hd', sn, sb, ab, col, del⟩ := cd
  have hh' : hd' = true := hh
  subst hh'
  unfold storeInOwnDict ownDictForStores
  repeat (first
    | with_reducible refine OEX.store_in_old hns hw hz ?_
    | with_reducible refine wpAny_loadPart_at hx ?_
    | with_reducible refine hcls.at ?_
    | wp_step)
  intro h' tk' hn' hs
  exact hq h' tk' (fun b o hb ho => (hs.2 b hb).trans ho) hn'
end
end My

set_option Elab.async false
set_option linter.all false
set_option maxRecDepth 100000
set_option maxHeartbeats 4000000
namespace My
open PySem L2 PyProof.Rows
/-- an exception class of the program straight under the built-in class T, as the top has written it -/
structure XC (K : PySem.W.Frag) (C : Addr) (T : String) : Prop where
  ini : ∃ B newId initId bmB bmF, PySem.W.excInitIn K C bmB newId = true ∧ ExcBaseFacts B newId initId bmF ∧ Tail B bmB ∧ bmB.contains (.type T) = true
  sto : ∃ B bmB, StoreFacts B bmB "object.__setattr__" "object" ∧ PySem.W.excOver K C bmB = true
  sa : PySem.W.findIn K (.ref C) "__setattr__" = some (some (.builtin "object.__setattr__"))
  hd : PySem.W.hasDictIn K C = true
  kp : PySem.W.keepIn K (.ref C) = true
  ga : PySem.W.findIn K (.ref C) "__getattribute__" = some (some (.builtin "BaseException.__getattribute__"))
  gg : PySem.W.findIn K (.ref C) "__getattr__" = some none
  ex : PySem.W.subIn K (.ref C) (.type "BaseException") = some true
  cl : PySem.W.findIn K (.ref C) "__class__" = some (some (.builtin "object.__class__"))
  sp : PySem.W.specialIn K (.builtin "object.__class__") "__get__" = some (some (.builtin "getset_descriptor.__get__"))
  tk : PySem.W.takesIn K (.builtin "object.__class__") = some true
  mr : PySem.W.mroIn K C (.type "object") = some true
theorem XC.at {K : PySem.W.Frag} {C : Addr} {T : String} {h : Heap} (x : XC K C T) (X : K.In h) : ∃ nm N qn bs bm hdct sn sub ab col dd k0 k1 k2 k3 k5 B newId initId bmF,
    h.get? C = some (excClassObj nm qn C N bs bm hdct sn sub ab col dd k0 k1 k2 k3 k5 newId) ∧ ExcBaseFacts B newId initId bmF ∧ Tail B bm ∧ bm.contains (.type T) = true := by
  obtain ⟨B, newId, initId, bmB, bmF, q, F, tl, hT⟩ := x.ini
  obtain ⟨nm, N, qn, bs, bm, hdct, sn, sub, ab, col, dd, k0, k1, k2, k3, k5, hC, hc⟩ := PySem.W.excInit_of X q
  exact ⟨nm, N, qn, bs, bm, hdct, sn, sub, ab, col, dd, k0, k1, k2, k3, k5, B, newId, initId, bmF, hC, F, ⟨(hc _).trans tl.has, (hc _).trans tl.noA, (hc _).trans tl.noN⟩, (hc _).trans hT⟩
/-- at a: an exception of the class at C with these fields -/
def XAt (H : Hp) (a C : Addr) (fs : List (Str × V)) : Prop := (fs = [] ∧ H a = some (exo a C none)) ∨ ∃ dx, H a = some (exo a C (some dx)) ∧ H dx = some (exd dx fs)
section
variable {X : Cx} {pins : List (Addr × Obj)} {σ : L2.St} {H : Hp} {s : Shared} {a C dx fI : Addr} {f : Str} {y : V} {u : Value} {fs : List (Str × V)} {A : Around} {T initId : String}
/-- the first field -/
theorem put1 {Q : Unit → Shared → Prop} {E : Value → Shared → Prop} (x : XC X.K C T) (I : Inv X pins σ H s) (e : H a = some (exo a C none)) (hno : PySem.W.findIn X.K (.ref C) f = some none) (ry : RelV y u)
    (h : ∀ dx s', H dx = none → dx ≠ a → Inv X pins σ (upd (upd H dx (exd dx [(f, y)])) a (exo a C (some dx))) s' → Q () s') :
    wpAny (model X.prog X.w) A (setAttr (.ref a) f u) Q E s := by
  obtain ⟨B, bmB, SF, ov⟩ := x.sto
  obtain ⟨t1, ho⟩ := exo_at I.hok e
  obtain ⟨hp, g, d, t, os⟩ := s
  refine PySem.W.set_plain I.kIn (ox := { cls := .ref C, dict := none, data := .fields #[.ref t1, .none, .none, .none, .bool false, .none] }) (od := none) ⟨ho, rfl, rfl, trivial⟩ x.sa ?_
  have htk : PySem.W.takerIn X.K C f = some none := by
    unfold PySem.W.takerIn
    rw [hno]; rfl
  refine setNew SF I.kIn ho ov x.hd htk (fun h' tk' dx k dn dne hx hn => ?_)
  have hnd : H dx = none := I.hok.fresh dn
  have nd : ∀ {b : Addr} {o : Obj}, hp.get? b = some o → b ≠ dx := fun {b o} z => Nat.ne_of_lt (Nat.lt_of_lt_of_le (Heap.lt_size z) dn)
  have na : ∀ {b : Addr}, H b = none → b ≠ a := fun {b} n z => by
    rw [z, e] at n
    cases n
  have U : Un X.fs [] H (upd (upd H dx (exd dx [(f, y)])) a (exo a C (some dx))) hp h' := by
    refine ⟨fun b o z n _ _ => k b o (na n) z, fun b o z n _ _ => ⟨o.slots, k b o (na n) z⟩, fun b o z n _ => ?_, fun b o z _ => ?_, fun b xs z => ?_, fun b o v z => ?_, fun b ps z => ⟨#[], ?_⟩⟩
    · rw [upd_ne (na n), upd_ne (nd z)]; exact n
    · by_cases hb : b = a
      · exact ⟨_, by rw [hb]; exact hx⟩
      · exact ⟨o, k b o hb z⟩
    · rw [upd_ne (at_ne e z exo_tup), upd_ne (ne_of_none z hnd)]; exact z
    · rw [upd_ne (at_ne e z exo_frz), upd_ne (ne_of_none z hnd)]; exact z
    · rw [upd_ne (at_ne e z exo_tbl), upd_ne (ne_of_none z hnd), z]; simp
  refine h dx _ hnd dne (I.un (t' := tk') U fun b o z => ?_)
  by_cases hb : b = a
  · subst hb
    rw [upd_same] at z
    cases z
    exact exo_ok hx
  · rw [upd_ne hb] at z
    by_cases hd : b = dx
    · subst hd
      rw [upd_same] at z
      cases z
      exact exd_ok hn (relO_put (fs := []) ry fun g => True.intro)
    · rw [upd_ne hd] at z
      refine (I.hok b o z).stay (fun c v hc z => k c v ?_ z) (fun c hc => ?_) (fun c xs hc => ?_)
      · rcases hc with hc | hc
        · rw [hc]; exact hb
        · exact at_ne e hc exo_own
      · rw [upd_ne (at_ne e hc exo_own), upd_ne (ne_of_none hc hnd)]; exact hc
      · rw [upd_ne (at_ne e hc exo_tup), upd_ne (ne_of_none hc hnd)]; exact hc
/-- a further field -/
theorem put2 {Q : Unit → Shared → Prop} {E : Value → Shared → Prop} (x : XC X.K C T) (I : Inv X pins σ H s) (e : H a = some (exo a C (some dx))) (ed : H dx = some (exd dx fs)) (hl : fs.length ≤ 900)
    (hno : PySem.W.findIn X.K (.ref C) f = some none) (ry : RelV y u) (h : ∀ s', Inv X pins σ (upd H dx (exd dx ((f, y) :: fs))) s' → Q () s') :
    wpAny (model X.prog X.w) A (setAttr (.ref a) f u) Q E s := by
  obtain ⟨B, bmB, SF, ov⟩ := x.sto
  obtain ⟨t1, ho⟩ := exo_at I.hok e
  obtain ⟨mA, hns, rel⟩ := exd_at I.hok ed
  have hw := within_of rel
  obtain ⟨hp, g, d, t, os⟩ := s
  obtain ⟨oD, _, _, hoD, _, _⟩ := hns.count hw
  refine PySem.W.set_plain I.kIn (ox := { cls := .ref C, dict := some dx, data := .fields #[.ref t1, .none, .none, .none, .bool false, .none] }) (od := some oD) ⟨ho, rfl, rfl, hoD⟩ x.sa ?_
  have htk : PySem.W.takerIn X.K C f = some none := by
    unfold PySem.W.takerIn
    rw [hno]; rfl
  refine setOld SF I.kIn ho hns hw (by rw [List.length_map]; omega) ov x.hd htk (fun h' tk' k hn => ?_)
  have hd : ∃ o, h'.get? dx = some o := by
    obtain ⟨o, _, _, e', _⟩ := hn
    exact ⟨o, e'⟩
  exact h _ (I.write (t' := tk') (x := dx) (e := dx) (o := exd dx ((f, y) :: fs)) (by rw [ed]; exact True.intro) (.inl rfl) k hd (exd_ok hn (relO_put ry rel)))
/-- T.__init__(self, ..) -/
theorem base_init {us : List Value} {Q : Value → Shared → Prop} {E : Value → Shared → Prop} (F : InitF T initId) (x : XC X.K C T) (I : Inv X pins σ H s) (e : H a = some (exo a C none)) (hl : us.length ≤ sizeLine) (h : ∀ s', Inv X pins σ H s' → Q .none s') :
    wpAny (model X.prog X.w) A (call (.builtin initId) (.ref a :: us)) Q E s := by
  obtain ⟨nm, N, qn, bs, bm, hdct, sn, sub, ab, col, dd, k0, k1, k2, k3, k5, B, newId, initB, bmF, hC, _, _, hT⟩ := x.at I.kIn
  obtain ⟨t1, ho⟩ := exo_at I.hok e
  obtain ⟨hp, g, d, t, os⟩ := s
  refine wpAny_call (initIt F hT hC ho hl fun h' t2 k hx => ?_)
  have J := I.write (t' := t) (x := a) (e := a) (o := exo a C none) (by rw [e]; exact True.intro) (.inl rfl) k ⟨_, hx⟩ (exo_ok hx)
  have eu : upd H a (exo a C none) = H := by
    funext b
    by_cases hb : b = a
    · rw [hb, upd_same, e]
    · rw [upd_ne hb]
  rw [eu] at J
  exact h _ J
/-- C(..), whatever is written: the exception is laid, then its __init__ -/
theorem run_xm {CX : CXT} {k : Nat} {fd : FuncData} {ps : List Str} {sp : Sp} {us : List Value} {kw : List (Str × Value)} {fu : Value → List Value} {fv : V → List V} {Q : VK} (x : XC X.K C T)
    (iC : PySem.W.findIn X.K (.ref C) "__init__" = some (some (.ref fI))) (tI : PySem.W.typeIn X.K (.ref fI) = some (.type "function"))
    (F1 : FnOk X.prog X.w X.K X.mg X.base CX k fI fd ps sp) (hr : Room (k + 1) X.A) (hx : Passes CX X (fun _ _ _ => False)) (I : Inv X pins σ H s) (hus : us.length ≤ sizeLine)
    (hb : ∀ (s' : Shared) (self : Value), X.K.In s'.heap → BindsTo s' fd ⟨self :: us, kw⟩ (ps.zip (fu self))) (hv : ∀ a, Vals (fv (.ref a)) (fu (.ref a)))
    (h : ∀ a, H a = none → sp (fv (.ref a)) (upd H a (exo a C none)) (fun v H3 => v = .non ∧ Q (.ref a) H3) (fun _ _ _ => False)) :
    wpAny (model X.prog X.w) X.A (call (.ref C) us kw) (EP X pins σ Q) X.xe s := by
  obtain ⟨nm, N, qn, bs, bm, hdct, sn, sub, ab, col, dd, k0, k1, k2, k3, k5, B, newId, initB, bmF, hC, FB, tl, _⟩ := x.at I.kIn
  have li := PySem.W.looks_findIn (M := model X.prog X.w) I.kIn iC
  have lb := fun self => PySem.W.bind_fn (M := model X.prog X.w) I.kIn self tI
  obtain ⟨hp, g, dr, tk, os⟩ := s
  have hsz : hp.objs.size ≤ hp.objs.size + 1 := Nat.le_succ _
  have hq := h (hp.objs.size + 1) (I.hok.fresh hsz)
  have kk : ∀ b o, hp.get? b = some o → ((hp.push (PySem.W.kdv_tup us)).push (raw C hp.objs.size)).get? b = some o := fun b o e =>
    Heap.get?_push_of_some _ (Heap.get?_push_of_some _ e)
  have hget : ((hp.push (PySem.W.kdv_tup us)).push (raw C hp.objs.size)).get? (hp.objs.size + 1) = some (raw C hp.objs.size) := by
    heap_get
  have I2 : Inv X pins σ (upd H (hp.objs.size + 1) (exo (hp.objs.size + 1) C none)) ⟨(hp.push (PySem.W.kdv_tup us)).push (raw C hp.objs.size), g, dr, tk, os⟩ :=
    I.laid (t' := tk) (a := hp.objs.size + 1) (o := exo (hp.objs.size + 1) C none) kk hsz (exo_ok hget)
  refine wpAny_call (callIt FB tl hC li lb hus (codeAny_mono (F1.run _ X.stack _ _ ⟨Value.ref (hp.objs.size + 1) :: us, kw⟩ (fu (.ref (hp.objs.size + 1))) _ _ (fun _ _ _ => False)
    (hr.make C us kw) (I2.env0.make C us kw) (hb _ _ I2.kIn) (hv _) hq) fun r s' hq' => ?_))
  cases r with
  | error er => exact hx pins σ _ _ er s' I2 hq'
  | ok fl =>
    cases fl with
    | ret u =>
      obtain ⟨v, H', I3, rv, ev, q3⟩ := I2.after hq'
      subst ev
      exact ⟨rv, ⟨V.ref (hp.objs.size + 1), H', I3, rfl, q3⟩⟩
    | next => exact False.elim hq'
    | brk => exact False.elim hq'
    | cont => exact False.elim hq'
/-- what isinstance asks of it -/
theorem kit_x (x : XC X.K C T) (I : Inv X pins σ H s) (hX : XAt H a C fs) : ∃ P : Heap → Prop, PySem.W.KitX X.K (.ref a) (.ref C) P ∧ P s.heap := by
  have hcl : (PySem.W.clsIn X.K C).isSome = true := by
    obtain ⟨cd, hc, _⟩ := PySem.W.any_some x.hd
    rw [hc]; rfl
  rcases hX with ⟨_, e⟩ | ⟨dx, e, ed⟩
  · obtain ⟨t1, ho⟩ := exo_at I.hok e
    exact ⟨_, PySem.W.kitx_exc (od := none) (ox := _) hcl x.ga x.gg x.ex x.cl x.sp x.tk x.mr, ⟨ho, rfl, rfl, trivial⟩⟩
  · obtain ⟨t1, ho⟩ := exo_at I.hok e
    obtain ⟨mA, hns, rel⟩ := exd_at I.hok ed
    obtain ⟨oD, hoD, _⟩ := lookIn_ns hns
    exact ⟨_, PySem.W.kitx_exc (od := some oD) (ox := _) hcl x.ga x.gg x.ex x.cl x.sp x.tk x.mr, ⟨ho, rfl, rfl, hoD⟩⟩
end
/-! ### readings and rules -/
def tBI (K : PySem.W.Frag) (T : String) (ta : TA) : TE := fun σ H Q => ta σ H fun vs H1 => ∃ (a C : Addr) (ws : List V), vs = .ref a :: ws ∧ ws.length ≤ 1000 ∧ XC K C T ∧ H1 a = some (exo a C none) ∧ Q .non H1
def tXs (K : PySem.W.Frag) (T : String) (f : Str) (to te : TE) : TS := fun D σ H => te σ H fun y H1 => to σ H1 fun x H2 => ∃ a C : Addr, x = .ref a ∧ XC K C T ∧ PySem.W.findIn K (.ref C) f = some none ∧
  ((H2 a = some (exo a C none) ∧ ∀ dx, H2 dx = none → dx ≠ a → D.nx σ (upd (upd H2 dx (exd dx [(f, y)])) a (exo a C (some dx)))) ∨
    ∃ (dx : Addr) (fs : List (Str × V)), H2 a = some (exo a C (some dx)) ∧ H2 dx = some (exd dx fs) ∧ fs.length ≤ 900 ∧ D.nx σ (upd H2 dx (exd dx ((f, y) :: fs))))
def tXm (C : Addr) (sp : Sp) (n m : Nat) (gV : V → List V → List V → List V) (t tk : TA) : TE := fun σ H Q => t σ H fun vs H1 => tk σ H1 fun zs H2 => vs.length = n ∧ zs.length = m ∧
  ∀ a, H2 a = none → sp (gV (.ref a) vs zs) (upd H2 a (exo a C none)) (fun v H3 => v = .non ∧ Q (.ref a) H3) (fun _ _ _ => False)
def tXg (K : PySem.W.Frag) (f : Str) (te : TE) : TE := fun σ H Q => te σ H fun x H1 => ∃ (a C dx : Addr) (T : String) (fs : List (Str × V)) (v : V), x = .ref a ∧ XC K C T ∧ PySem.W.findIn K (.ref C) f = some none ∧
  H1 a = some (exo a C (some dx)) ∧ H1 dx = some (exd dx fs) ∧ fs.lookup f = some v ∧ Q v H1
def rIsX (K : PySem.W.Frag) : List V → Hp → VK → Prop := fun xs H Q => ∃ (a C : Addr) (c : V) (T : String) (fs : List (Str × V)) (u : Value) (b : Bool), xs = [.ref a, c] ∧ ClsV c u ∧ XC K C T ∧ XAt H a C fs ∧ PySem.W.kitOne K (.ref C) u = some b ∧ Q (.bl b) H
def rIsXT (K : PySem.W.Frag) : List V → Hp → VK → Prop := fun xs H Q => ∃ (a C tp : Addr) (cs : List V) (T : String) (fs : List (Str × V)) (us : List Value) (b : Bool), xs = [.ref a, .ref tp] ∧ H tp = some (.tup cs) ∧ Paired ClsV cs us ∧ XC K C T ∧ XAt H a C fs ∧
  PySem.W.kitAny K (.ref C) us = some b ∧ Q (.bl b) H
section
variable {X : Cx} {o e : Expr} {es : List Expr} {kws : List Keyword} {to te : TE} {ta tk : TA} {f x : Str} {p p' p1 p2 pos : Pos} {T initId : String} {S : Str}
theorem pe_binit {pl : Sem Bool} (F : InitF T initId) (hS : Str.ofString T = S) (hg : Gl X S) (hm : X.mg S = none) (hv : bootBuiltins S = some (.type T)) (hty : typeOf (.type T) = pure (.type "type")) (hst : Manifest.isStub T = false)
    (hn : S ≠ "__name__") (hd : (S == ("__debug__" : Str)) = false) (hh : PySem.W.handedIn (.builtin initId) = true)
    (vV : PySem.W.findCls X.K (.type T) (.type "type") "__init__" = some (.val (.builtin initId))) (ha : PA X (e :: es) ta)
    (hc : eval (.Call (.Attribute (.Name S p1) "__init__" p2) (e :: es) [] pos) X.env = (do
      let ov ← eval (.Name S p1) X.env
      standAt p2.atName
      let (f, first) ← holding [ov] (getMethod ov "__init__" pl)
      callWith pos f first (backTo pos (starEach (e :: es) X.env)) (backToKw pos (keywordEach [] X.env))) := by rfl)
    (he : starEach (e :: es) X.env = (false, eval e X.env) :: starEach es X.env := by rfl) (hpl : (backTo pos (starEach es X.env)).any (·.1) = false := by rfl) :
    PE X (.Call (.Attribute (.Name S p1) "__init__" p2) (e :: es) [] pos) (tBI X.K T ta) := by
  refine ⟨fun pins s σ H Q I h => ?_⟩
  refine PySem.W.methodCall_KW (ld_blt I hg hm hv ?_ hn hd) hc
  obtain ⟨m, fr⟩ := I.fr
  refine PySem.W.method_type fr I.ok.mod.kin hty hst vV hh ?_
  show wpAny _ _ (callWith pos (Value.builtin initId) [] (backTo pos (starEach (e :: es) X.env)) []) _ _ _
  refine PyProof.Rows.callWith_method1 (thn (ha.run pos pins _ σ H _ (I.tok _) h) fun us s1 ⟨vs, H1, I1, r1, a, C, ws, ev, hl, xc, ea, q⟩ => ?_) he hpl
  subst ev
  cases r1 with
  | @cons _ u0 _ ur ra rw' =>
    obtain rfl : u0 = Value.ref a := ra
    have hlen : ur.length ≤ sizeLine := by
      rw [← Paired.length rw', sizeLine_eq]
      omega
    exact base_init F xc I1 ea hlen fun s' J => ⟨.non, H1, J, rfl, q⟩
theorem ps_xst (ho : PE X o to) (he : PE X e te) (hs : swapsWith e (some (.Attribute o f p')) pos.line X.env = pure false := by rfl) : PS X (.Assign [.Attribute o f p'] e pos) (tXs X.K T f to te) := by
  refine ⟨fun pins s σ H D I h => ?_⟩
  refine plainObj_wpAny_Assign_Attribute (thn (he.run pins s σ H _ I h) fun v s1 ⟨y, H1, I1, r1, q1⟩ =>
    thn (ho.run pins s1 σ H1 _ I1 q1) fun u s2 ⟨x, H2, I2, r2, a, C, ex, xc, hno, q⟩ => ?_) hs
  subst ex
  obtain rfl : u = Value.ref a := r2
  rcases q with ⟨ea, q⟩ | ⟨dx, fs, ea, ed, hl, q⟩
  · exact put1 xc I2 ea hno r1 fun dx s' n ne J => ⟨σ, _, J, q dx n ne⟩
  · exact put2 xc I2 ea ed hl hno r1 fun s' J => ⟨σ, _, J, q⟩
theorem pe_xget (he : PE X e te) (hb : attributeBase e f X.env (eval e X.env) = eval e X.env := by rfl) : PE X (.Attribute e f pos) (tXg X.K f te) := by
  refine ⟨fun pins s σ H Q I h => ?_⟩
  refine attr_of hb (thn (he.run pins s σ H _ I h) fun u s1 hh => ?_)
  obtain ⟨x, H1, I1, rx, a, C, dx, T, fs, v, ex, xc, hno, ea, ed, l, q⟩ := hh
  subst ex
  obtain rfl : u = Value.ref a := rx
  obtain ⟨t1, ho⟩ := exo_at I1.hok ea
  obtain ⟨mA, hns, hr⟩ := exd_at I1.hok ed
  obtain ⟨od, hod, hl⟩ := lookIn_ns hns
  obtain ⟨u, hu, ru⟩ := RelO.some_of (v := v) (o := mA f) (by rw [← l]; exact hr f)
  have J : PySem.W.InstAt s1.heap a _ C (some od) := ⟨ho, rfl, rfl, hod⟩
  exact HandSPX.exc_get I1.kIn J xc.ga xc.gg xc.ex (PySem.W.findObj_own xc.hd hno rfl (by rw [hl, hu])) (handed_of ru) ⟨v, H1, I1.tok _, ru, q⟩
theorem call_isX : CallR X (.builtin "isinstance") (rIsX X.K) := by
  intro pins s σ H xs us Q I r h
  obtain ⟨a, C, c, T, fs, u, b, rfl, k, xc, hX, e, q⟩ := h
  obtain ⟨u1, u2, rfl, r1, r2⟩ := vals2 r
  have e2 := k.eq r2
  subst e2
  cases (show u1 = Value.ref a from r1)
  obtain ⟨P, Z, p⟩ := kit_x xc I hX
  exact PySem.W.kia_one Z I.kIn p e (fun z => nomatch z) fun tk => ⟨.bl b, H, I.tok tk, rfl, q⟩
theorem call_isXT : CallR X (.builtin "isinstance") (rIsXT X.K) := by
  intro pins s σ H xs us Q I r h
  obtain ⟨a, C, tp, cs, T, fs, ws, b, rfl, hT, k, xc, hX, e, q⟩ := h
  obtain ⟨u1, u2, rfl, r1, r2⟩ := vals2 r
  cases (show u2 = Value.ref tp from r2)
  cases (show u1 = Value.ref a from r1)
  obtain ⟨P, Z, p⟩ := kit_x xc I hX
  obtain ⟨_, its, rv, o, h1, h2, n, h3⟩ := (show ObjOk X.prog X.w H s.heap tp (.tup cs) from I.hok tp _ hT)
  have e3 := ClsV.all k rv
  subst e3
  obtain ⟨oc, od, dt, sl⟩ := o
  simp only at h2 h3
  subst h2 h3
  exact PySem.W.kia_tup Z I.kIn p h1 e (fun z => nomatch z) fun tk => ⟨.bl b, H, I.tok tk, rfl, q⟩
section
variable {CX : CXT} {k n : Nat} {C fI : Addr} {fd : FuncData} {ps ks : List Str} {sp : Sp} {g : Value → List Value → List Value → List Value} {gV : V → List V → List V → List V}
/-- how C's arguments come to __init__: n by place, ks by name -/
structure XB (K : PySem.W.Frag) (fd : FuncData) (ps : List Str) (n : Nat) (ks : List Str) (g : Value → List Value → List Value → List Value) (gV : V → List V → List V → List V) : Prop where
  to : ∀ (s : Shared) (self : Value) (us ws : List Value), K.In s.heap → us.length = n → ws.length = ks.length → BindsTo s fd ⟨self :: us, ks.zip ws⟩ (ps.zip (g self us ws))
  rel : ∀ {a : Addr} {vs zs : List V} {us ws : List Value}, vs.length = n → zs.length = ks.length → Vals vs us → Vals zs ws → Vals (gV (.ref a) vs zs) (g (.ref a) us ws)
/-- C(e, ..) by place alone -/
theorem pe_xm (x0 : XC X.K C T) (iC : PySem.W.findIn X.K (.ref C) "__init__" = some (some (.ref fI))) (tI : PySem.W.typeIn X.K (.ref fI) = some (.type "function"))
    (F1 : FnOk X.prog X.w X.K X.mg X.base CX k fI fd ps sp) (hr : Room (k + 1) X.A) (hx : Passes CX X (fun _ _ _ => False)) (hb : XB X.K fd ps n [] g gV) (hn : n ≤ 1000) (hg : Gl X x) (hm : X.mg x = some (.ref C)) (ha : PA X (e :: es) ta)
    (hdb : (x == ("__debug__" : Str)) = false := by decide) (he : starEach (e :: es) X.env = (false, eval e X.env) :: starEach es X.env := by rfl) (hpl : (backTo pos (starEach es X.env)).any (·.1) = false := by rfl) :
    PE X (.Call (.Name x p) (e :: es) [] pos) (tXm C sp n 0 gV ta tNil) := by
  refine ⟨fun pins s σ H Q I h => ?_⟩
  refine wpAny_Call_Name_kw (ld_glob I hg hm ?_ hdb)
  refine PySem.W.callWith_K (h₀ := X.base) I.ok.mod.kin x0.kp (thn (ha.run pos pins s σ H _ I h) fun us s1 ⟨vs, H1, I1, r, q⟩ => ⟨I1.kIn, ?_⟩) he hpl
  obtain ⟨l1, l2, q⟩ := q
  have lu : us.length = n := (Paired.length r).symm.trans l1
  show wpAny _ _ (call (.ref C) us) _ _ _
  exact run_xm (kw := []) (fu := fun self => g self us []) (fv := fun a => gV a vs []) x0 iC tI F1 hr hx I1 (by rw [lu, sizeLine_eq]; omega) (fun s' self kin => hb.to s' self us [] kin lu rfl) (fun a => hb.rel l1 rfl r .nil) q
/-- C() -/
theorem pe_xm0 (x0 : XC X.K C T) (iC : PySem.W.findIn X.K (.ref C) "__init__" = some (some (.ref fI))) (tI : PySem.W.typeIn X.K (.ref fI) = some (.type "function"))
    (F1 : FnOk X.prog X.w X.K X.mg X.base CX k fI fd ps sp) (hr : Room (k + 1) X.A) (hx : Passes CX X (fun _ _ _ => False)) (hb : XB X.K fd ps 0 [] g gV) (hg : Gl X x) (hm : X.mg x = some (.ref C))
    (hdb : (x == ("__debug__" : Str)) = false := by decide) : PE X (.Call (.Name x p) [] [] pos) (tXm C sp 0 0 gV tNil tNil) := by
  refine ⟨fun pins s σ H Q I h => ?_⟩
  refine wpAny_Call_Name_kw (ld_glob I hg hm ?_ hdb)
  obtain ⟨l1, l2, q⟩ := h
  exact PySem.W.callWith_K0 I.kIn x0.kp (run_xm (us := []) (kw := []) (fu := fun self => g self [] []) (fv := fun a => gV a [] []) x0 iC tI F1 hr hx I (by rw [sizeLine_eq]; exact Nat.zero_le _)
    (fun s' self kin => hb.to s' self [] [] kin rfl rfl) (fun a => hb.rel rfl rfl .nil .nil) q)
/-- C(k = v, ..) -/
theorem pe_xmK (x0 : XC X.K C T) (iC : PySem.W.findIn X.K (.ref C) "__init__" = some (some (.ref fI))) (tI : PySem.W.typeIn X.K (.ref fI) = some (.type "function"))
    (F1 : FnOk X.prog X.w X.K X.mg X.base CX k fI fd ps sp) (hr : Room (k + 1) X.A) (hx : Passes CX X (fun _ _ _ => False)) (hb : XB X.K fd ps 0 ks g gV) (hg : Gl X x) (hm : X.mg x = some (.ref C)) (hkw : PK X kws tk)
    (hall : (backToKw pos (keywordEach kws X.env)).all (·.1.isSome) = true := by rfl) (hks : (backToKw pos (keywordEach kws X.env)).filterMap (·.1) = ks := by rfl) (hdb : (x == ("__debug__" : Str)) = false := by decide)
    (hpl : ((backTo pos (starEach [] X.env)).any (·.1) || (backToKw pos (keywordEach kws X.env)).any (·.1.isNone)) = false := by rfl) :
    PE X (.Call (.Name x p) [] kws pos) (tXm C sp 0 ks.length gV tNil tk) := by
  refine ⟨fun pins s σ H Q I h => ?_⟩
  refine wpAny_Call_Name_kw (ld_glob I hg hm ?_ hdb)
  refine PySem.W.callWith_KW0 (h₀ := X.base) I.ok.mod.kin x0.kp hall ?_ hpl
  refine thn (hkw.run pos pins s σ H _ I h) fun ws s2 ⟨zs, H2, I2, rz, l1, l2, q2⟩ => ⟨I2.kIn, ?_⟩
  rw [hks]
  exact run_xm (us := []) (kw := ks.zip ws) (fu := fun self => g self [] ws) (fv := fun a => gV a [] zs) x0 iC tI F1 hr hx I2 (by rw [sizeLine_eq]; exact Nat.zero_le _)
    (fun s' self kin => hb.to s' self [] ws kin rfl (rz.length.symm.trans l2)) (fun a => hb.rel rfl l2 .nil rz) q2
end
end
end My

set_option Elab.async false
set_option linter.all false
set_option maxRecDepth 100000
set_option maxHeartbeats 4000000
namespace L2
open PySem PySem.Spec PyProof.Rows
/-! ### an exception that is caught and kept -/
def Exk (cls : Value) (d : Option Addr) (a : Addr) : HO := .ext fun h => ∃ (oe : Obj) (vs : Array Value), h.get? a = some oe ∧ Zc cls d oe ∧ oe.data = .fields vs
theorem exk_ok {P : Program} {w : World} {H : Hp} {h : Heap} {a : Addr} {cls : Value} {d : Option Addr} {oe : Obj} {vs : Array Value} (e : h.get? a = some oe) (z : Zc cls d oe) (hd : oe.data = .fields vs) : ObjOk P w H h a (Exk cls d a) :=
  ⟨⟨oe, vs, e, z, hd⟩, ⟨oe, e⟩, fun _ _ ⟨o, v, q, r⟩ k => ⟨o, v, k o q, r⟩⟩
theorem exk_at {P : Program} {w : World} {H : Hp} {h : Heap} {a : Addr} {cls : Value} {d : Option Addr} (hok : HOk P w H h) (he : H a = some (Exk cls d a)) : ∃ (oe : Obj) (vs : Array Value), h.get? a = some oe ∧ Zc cls d oe ∧ oe.data = .fields vs := by
  have x : ObjOk P w H h a (.ext fun h => ∃ (oe : Obj) (vs : Array Value), h.get? a = some oe ∧ Zc cls d oe ∧ oe.data = .fields vs) := hok a _ he
  exact x.1
theorem HOk.laidK {P : Program} {w : World} {H : Hp} {h : Heap} {a : Addr} {o : HO} (x : HOk P w H h) (hn : H a = none) (new : ObjOk P w (upd H a o) h a o) : HOk P w (upd H a o) h := fun b u e => by
  by_cases hb : b = a
  · subst hb
    rw [upd_same] at e
    cases e
    exact new
  · rw [upd_ne hb] at e
    exact (x b u e).stay (fun c v _ q => q) (fun c q => by rw [upd_ne (ne_of_none q hn)]; exact q) fun c xs q => by rw [upd_ne (ne_of_none q hn)]; exact q
section
variable {X : Cx} {pins : List (Addr × Obj)} {σ : St} {H : Hp} {s : Shared}
theorem Inv.track {a : Addr} {oe : Obj} {vs : Array Value} {cls : Value} {d : Option Addr} (I : Inv X pins σ H s) (ha : s.heap.get? a = some oe) (hd : oe.data = .fields vs) (hz : Zc cls d oe) (hn : H a = none) (n0 : X.s_0.heap.get? a = none)
    (nL : a ≠ X.env.locals) (np : ∀ p ∈ X.pn ++ pins, p.1 ≠ a) : Inv X pins σ (upd H a (Exk cls d a)) s where
  ok := I.ok
  os := I.os
  bare := I.bare
  base := ⟨I.base.keep, I.base.slot, fun b o q n hx => by rw [upd_ne (fun z => by rw [z, n0] at q; cases q)]; exact I.base.free b o q n hx, I.base.there,
    fun b xs q => by have := I.base.tups b xs q; rw [upd_ne (ne_of_none this hn)]; exact this,
    fun b o u q => by have := I.base.frzs b o u q; rw [upd_ne (ne_of_none this hn)]; exact this,
    fun b ps q => by obtain ⟨m, e⟩ := I.base.tbls b ps q; exact ⟨m, by rw [upd_ne (ne_of_none e hn)]; exact e⟩⟩
  loc := I.loc
  cell := I.cell
  free := by rw [upd_ne (Ne.symm nL)]; exact I.free
  freeC := fun x c e => by
    have hne : c ≠ a := fun z => by
      obtain ⟨v, hv⟩ := I.cell x c e
      obtain ⟨o, ho, hdo⟩ := hv
      rw [z, ha] at ho
      cases ho
      rw [hd] at hdo; cases hdo
    rw [upd_ne hne]; exact I.freeC x c e
  pin := fun p hp => by
    obtain ⟨h1, h2, h3, h4, h5⟩ := I.pin p hp
    exact ⟨h1, by rw [upd_ne (np p hp)]; exact h2, h3, h4, h5⟩
  hok := HOk.laidK I.hok hn (exk_ok ha hz hd)
  len := I.len
end
/-- an exception that has come down in X's own frame: all that is known of it there -/
structure Land (X : Cx) (pins : List (Addr × Obj)) (σ : St) (H : Hp) (s : Shared) (a : Addr) (cls : Value) (d : Option Addr) : Prop where
  inv : Inv X pins σ H s
  obj : ∃ (oe : Obj) (vs : Array Value), s.heap.get? a = some oe ∧ Zc cls d oe ∧ oe.data = .fields vs
  nH : H a = none
  nL : a ≠ X.env.locals
  nF : a ∉ X.fs
  n0 : X.s_0.heap.get? a = none
  nP : ∀ p ∈ X.pn ++ pins, p.1 ≠ a
section
variable {X : Cx} {pins : List (Addr × Obj)} {σ : St} {H : Hp} {s sI : Shared} {a : Addr} {cls : Value} {d : Option Addr} {B : Heap}
theorem land_of (hs : X.stack = X.env :: X.outer) (hex : X.ex = []) (hf : X.env.frame = some X.env.locals) (J : Inv X pins σ H sI) (nb : ∀ b o, sI.heap.get? b = some o → b ∉ frs X.stack → B.get? b = some o)
    (up : sI.heap.UpToSlots s.heap) (fl : HandSPX.FlyingZ B (X.env :: X.outer) a (Zc cls d) s.heap) (na : H a = none) (os : s.os = sI.os) (ag : AllBare s.gens) : Land X pins σ H s a cls d := by
  obtain ⟨st, gB, ff, oe, vs, T, oT, ts, he, hz, hd, _⟩ := fl
  have nofr : a ∉ frs (X.env :: X.outer) := by
    intro hm
    obtain ⟨_, o', e', hnf⟩ := ff.mem hm
    cases he.symm.trans e'
    exact hnf _ hd
  have gI : sI.heap.get? a = none := by
    refine Option.eq_none_iff_forall_ne_some.mpr fun o q => ?_
    exact absurd (gB.symm.trans (nb a o q (hs ▸ nofr))) (by intro z; cases z)
  refine ⟨J.landed nb st up os ag, ⟨oe, vs, he, hz, hd⟩, na, ?_, ?_, ?_, ?_⟩
  · intro z
    exact nofr (List.mem_filterMap.mpr ⟨X.env, List.mem_cons_self, hf.trans (congrArg some z.symm)⟩)
  · intro hm
    obtain ⟨e, he', q⟩ := List.mem_filterMap.mp hm
    exact nofr (List.mem_filterMap.mpr ⟨e, List.mem_cons_of_mem _ he', q⟩)
  · refine Option.eq_none_iff_forall_ne_some.mpr fun o q => ?_
    obtain ⟨o', e'⟩ := J.base.there a o q (by rw [hex]; exact List.not_mem_nil)
    exact absurd (gI.symm.trans e') (by intro z; cases z)
  · intro p hp z
    have h1 := (J.pin p hp).1
    rw [z] at h1
    exact absurd (gI.symm.trans h1) (by intro z; cases z)
theorem Land.suite (L : Land X pins σ H s a cls d) : ∃ oe : Obj, Zc cls d oe ∧ (∃ vs, oe.data = .fields vs) ∧ Inv (X.suite a ((a, oe) :: (X.pn ++ pins))) [] σ H s := by
  obtain ⟨oe, vs, h1, h2, h3⟩ := L.obj
  exact ⟨oe, h2, ⟨vs, h3⟩, L.inv.suite h1 h3 L.nH L.nL L.nF⟩
/-- behind the suite it is one of ours -/
theorem Land.kept (L : Land X pins σ H s a cls d) {oe : Obj} (hz : Zc cls d oe) (hd : ∃ vs, oe.data = .fields vs) {σ' : St} {H' : Hp} {s' : Shared} (S : Inv (X.suite a ((a, oe) :: (X.pn ++ pins))) [] σ' H' s') : Inv X pins σ' (upd H' a (Exk cls d a)) s' := by
  obtain ⟨vs, hd⟩ := hd
  have p := S.pin (a, oe) (List.mem_append_left _ List.mem_cons_self)
  exact (S.unsuite L.inv.ok).track p.1 hd hz p.2.1 L.n0 L.nL L.nP
end
/-- except x as n: k = n (n in slot i, k in slot j): what is wished of what the body raises -/
def wKeep (K : PySem.W.Frag) (c : Value) (i j : Nat) (D : Ends) : WX := fun cls d σ H =>
  PySem.W.exmOne K cls c = some true ∧ ∀ a, H a = none → D.nx (((σ.set i (some (.ref a))).set j (some (.ref a))).set i none) (upd H a (Exk cls d a))
section
variable {X : Cx} {x n : Str} {c : Value} {i j : Nat} {body suite : List Stmt} {b₀ : Stmt} {np pos pos' : Pos} {tb : WX → TS}
theorem ps_try_keep (hs : X.stack = X.env :: X.outer) (hex : X.ex = []) (hf : X.env.frame = some X.env.locals) (hN : X.N.Nodup) (hi : X.N[i]? = some n) (hln : X.env.kindOf n = some .local) (hc : Names X x c)
    (hb : ∀ (W : WX) (pn : List (Addr × Obj)) (xe : Value → Shared → Prop), Takes (X.tr pn xe) W → PassesOwn (model X.prog X.w) X.A X.env xe → PSs (X.tr pn xe) body (tb W))
    (hsu : ∀ (a : Addr) (oe : Obj) (cls : Value) (d : Option Addr) (pn : List (Addr × Obj)), Zc cls d oe → (∃ vs, oe.data = .fields vs) → PSs (X.suite a ((a, oe) :: pn)) (b₀ :: suite) (tAsg (tVar i) (gName j))) :
    PS X (.Try body [.ExceptHandler (some (.Name x np)) (some n) (b₀ :: suite) pos'] [] [] pos) (fun D σ H => tb (wKeep X.K c i j D) D σ H) := by
  refine ⟨fun pins s σ H D I h => wpAny_Try_except ?_⟩
  have fr : X.A.frames = some (X.env :: X.outer) := I.ok.frames.trans (congrArg some hs)
  have caught : ∀ u s', XE (X.tr (X.pn ++ pins) fun e s₁ => wpAny (model X.prog X.w) X.A (noteFrame e X.env) (fun _ s₂ => wpAny (model X.prog X.w) X.A (setFlight e none) (fun _ s₃ =>
      wpAny (model X.prog X.w) X.A (handleBy e X.env [.ExceptHandler (some (.Name x np)) (some n) (b₀ :: suite) pos']) (SP X pins D) X.xe s₃) X.xe s₂) X.xe s₁) (wKeep X.K c i j D) u s' →
      wpAny (model X.prog X.w) X.A (noteFrame u X.env) (fun _ s₂ => wpAny (model X.prog X.w) X.A (setFlight u none) (fun _ s₃ => wpAny (model X.prog X.w) X.A (handleBy u X.env [.ExceptHandler (some (.Name x np)) (some n) (b₀ :: suite) pos']) (SP X pins D) X.xe s₃) X.xe s₂) X.xe s' := by
    rintro u s' ⟨a, B, sI, pins', σ', H', cls, d, rfl, J', nb, up, sky, na, os, ag, hm, hw⟩
    have J : Inv X pins σ' H' sI := J'.ofTry I.ok
    refine Sky.land Zc.steady fr hf (by rw [← hs]; exact sky) fun h3 fl3 up3 => ?_
    have L3 : Land X pins σ' H' { s' with heap := h3 } a cls d := land_of hs hex hf J nb (up.trans up3) fl3 na os ag
    obtain ⟨oe3, z3, f3, S3⟩ := L3.suite
    obtain ⟨ob, _, g3, y3, _⟩ := L3.obj
    have ty : PySem.W.Looks (model X.prog X.w) h3 (typeOf (.ref a)) cls := fun _ _ _ _ k q => wpAny_typeOf_ref (k _ _ g3) (y3.1.symm ▸ q)
    refine wpAny_handleBy_cons (codeAny_handlers_test ?_) Value.noConfusion
    have name : ∀ {Q : Value → Shared → Prop} {E : Value → Shared → Prop}, Q c { s' with heap := h3 } → wpAny (model X.prog X.w) (X.A.mark (some (.ref a))) (eval (.Name x np) X.env) Q E { s' with heap := h3 } := by
      intro Q E q
      rcases hc with ⟨hg, hdbg, hm | ⟨hm, hv, hnn⟩⟩
      · exact ld_glob S3 hg hm q hdbg
      · exact ld_blt S3 hg hm hv q hnn hdbg
    refine name ((PySem.W.exm_one L3.inv.kIn ty hm).here (codeAny_handlers_suite_as (HandSPX.lands_againZ fl3 fun h4 fl4 up4 => ?_)))
    have L4 : Land X pins σ' H' { s' with heap := h4 } a cls d := land_of hs hex hf J nb ((up.trans up3).trans up4) fl4 na os ag
    obtain ⟨oe4, z4, f4, S4⟩ := L4.suite
    refine store_ok (X := X.suite a ((a, oe4) :: (X.pn ++ pins))) (v := .ref a) S4 hN hi (.inl hln) rfl (fun s5 S5 => ?_) (.inr hln)
    refine wpAny_mono ((hsu a oe4 cls d _ z4 f4).run [] s5 _ H' { nx := fun σ6 H6 => D.nx (σ6.set i none) (upd H6 a (Exk cls d a)), rt := fun _ _ => False, bk := fun _ _ => False, ct := fun _ _ => False } S5 ?_) (fun f s6 e6 => ?_) fun _ _ z => z.elim
    · refine ⟨.ref a, ?_, hw a na⟩
      have hl : i < σ'.length := by
        have := (List.getElem?_eq_some_iff.mp hi).1
        rw [J.len]; exact this
      rw [List.getElem?_set_self hl]
    · cases f with
      | next =>
        obtain ⟨σ6, H6, S6, q6⟩ := e6
        exact gone_ok (L4.kept z4 f4 S6) hN hi hln fun s7 J7 => ⟨_, _, J7, q6⟩
      | brk => obtain ⟨_, _, _, q⟩ := e6; exact q.elim
      | cont => obtain ⟨_, _, _, q⟩ := e6; exact q.elim
      | ret u => obtain ⟨_, _, _, _, _, q⟩ := e6; exact q.elim
  refine wpAny_mono ((hb _ (X.pn ++ pins) _ caught PassesOwn.looking).run [] s σ H D (I.toTry _) h) (fun f s1 e1 => ?_) fun _ _ z => z
  cases f with
  | next => obtain ⟨σ1, H1, J1, q⟩ := e1; exact wpAny_execs_nil ⟨σ1, H1, J1.ofTry I.ok, q⟩
  | brk => obtain ⟨σ1, H1, J1, q⟩ := e1; exact ⟨σ1, H1, J1.ofTry I.ok, q⟩
  | cont => obtain ⟨σ1, H1, J1, q⟩ := e1; exact ⟨σ1, H1, J1.ofTry I.ok, q⟩
  | ret u => obtain ⟨v1, σ1, H1, J1, r, q⟩ := e1; exact ⟨v1, σ1, H1, J1.ofTry I.ok, r, q⟩
end
/-- e.n of a kept exception -/
def tXk (K : PySem.W.Frag) (n : Str) (te : TE) : TE := fun σ H Q => te σ H fun x H1 => ∃ (a C dd : Addr) (fs : List (Str × V)) (v : V), x = .ref a ∧ XfC K C ∧ PySem.W.findIn K (.ref C) n = some none ∧ H1 a = some (Exk (.ref C) (some dd) a) ∧ H1 dd = some (.xd fs) ∧ fs.lookup n = some v ∧ Q v H1
theorem pe_xk {X : Cx} {e : Expr} {te : TE} {pos : Pos} {n : Str} (he : PE X e te) (hb : attributeBase e n X.env (eval e X.env) = eval e X.env := by rfl) : PE X (.Attribute e n pos) (tXk X.K n te) := by
  refine ⟨fun pins s σ H Q I h => attr_of hb (thn (he.run pins s σ H _ I h) fun u s1 hh => ?_)⟩
  obtain ⟨_, H1, I1, rx, a, C, dd, fs, v, rfl, T, hno, hea, ea, l, q⟩ := hh
  cases (show u = Value.ref a from rx)
  obtain ⟨oe, vs, ha, hz, hd⟩ := exk_at I1.hok hea
  obtain ⟨mA, hns, hr⟩ := (I1.hok dd _ ea : ObjOk X.prog X.w H1 s1.heap dd (.xd fs))
  obtain ⟨od, ho, hl⟩ := lookIn_ns hns
  obtain ⟨r, hu, ru⟩ := RelO.some_of (v := v) (o := mA n) (l ▸ hr n)
  have nc : PySem.W.notCls oe = true := by
    unfold PySem.W.notCls
    rw [hd] <;> rfl
  have own := PySem.W.findObj_own (T.hdC) hno rfl ((hl n).trans (congrArg some hu))
  exact HandSPX.exc_get I1.kIn ⟨ha, hz.1, nc, hz.2.symm ▸ ho⟩ T.ga T.gg T.exC own (handed_of ru) ⟨v, H1, I1.tok _, ru, q⟩
end L2

set_option Elab.async false
set_option linter.all false
set_option maxRecDepth 100000
set_option maxHeartbeats 4000000
namespace L2
open PySem PySem.Spec PyProof.Rows
/-! ### isinstance of an exception that was kept -/
structure XkC (K : PySem.W.Frag) (C : Addr) : Prop where
  hd : PySem.W.hasDictIn K C = true
  ga : PySem.W.findIn K (.ref C) "__getattribute__" = some (some (.builtin "BaseException.__getattribute__"))
  gg : PySem.W.findIn K (.ref C) "__getattr__" = some none
  ex : PySem.W.subIn K (.ref C) (.type "BaseException") = some true
  cl : PySem.W.findIn K (.ref C) "__class__" = some (some (.builtin "object.__class__"))
  sp : PySem.W.specialIn K (.builtin "object.__class__") "__get__" = some (some (.builtin "getset_descriptor.__get__"))
  tk : PySem.W.takesIn K (.builtin "object.__class__") = some true
  mr : PySem.W.mroIn K C (.type "object") = some true
def rIsK (K : PySem.W.Frag) : List V → Hp → VK → Prop := fun xs H Q => ∃ (a C dd : Addr) (c : V) (fs : List (Str × V)) (u : Value) (b : Bool), xs = [.ref a, c] ∧ ClsV c u ∧ XkC K C ∧ H a = some (Exk (.ref C) (some dd) a) ∧ H dd = some (.xd fs) ∧ PySem.W.kitOne K (.ref C) u = some b ∧ Q (.bl b) H
def rIsKT (K : PySem.W.Frag) : List V → Hp → VK → Prop := fun xs H Q => ∃ (a C dd tp : Addr) (cs : List V) (fs : List (Str × V)) (us : List Value) (b : Bool), xs = [.ref a, .ref tp] ∧ H tp = some (.tup cs) ∧ Paired ClsV cs us ∧ XkC K C ∧ H a = some (Exk (.ref C) (some dd) a) ∧ H dd = some (.xd fs) ∧
  PySem.W.kitAny K (.ref C) us = some b ∧ Q (.bl b) H
section
variable {X : Cx} {pins : List (Addr × Obj)} {σ : St} {H : Hp} {s : Shared} {a C dd : Addr} {fs : List (Str × V)}
theorem kit_k (x : XkC X.K C) (I : Inv X pins σ H s) (hX : H a = some (Exk (.ref C) (some dd) a)) (hD : H dd = some (.xd fs)) : ∃ P : Heap → Prop, PySem.W.KitX X.K (.ref a) (.ref C) P ∧ P s.heap := by
  have hcl : (PySem.W.clsIn X.K C).isSome = true := by
    obtain ⟨cd, hc, _⟩ := PySem.W.any_some x.hd
    rw [hc]; rfl
  obtain ⟨oe, vs, ho, hz, hd⟩ := exk_at I.hok hX
  obtain ⟨mA, hns, _⟩ := (I.hok dd _ hD : ObjOk X.prog X.w H s.heap dd (.xd fs))
  obtain ⟨oD, hoD, _⟩ := lookIn_ns hns
  have nc : PySem.W.notCls oe = true := by
    unfold PySem.W.notCls
    rw [hd] <;> rfl
  exact ⟨_, PySem.W.kitx_exc (od := some oD) (ox := oe) hcl x.ga x.gg x.ex x.cl x.sp x.tk x.mr, ⟨ho, hz.1, nc, hz.2.symm ▸ hoD⟩⟩
theorem call_isK : CallR X (.builtin "isinstance") (rIsK X.K) := by
  intro pins s σ H xs us Q I r h
  obtain ⟨a, C, dd, c, fs, u, b, rfl, k, xc, hX, hD, e, q⟩ := h
  obtain ⟨u1, u2, rfl, r1, r2⟩ := vals2 r
  have e2 := k.eq r2
  subst e2
  cases (show u1 = Value.ref a from r1)
  obtain ⟨P, Z, p⟩ := kit_k xc I hX hD
  exact PySem.W.kia_one Z I.kIn p e (fun z => nomatch z) fun tk => ⟨.bl b, H, I.tok tk, rfl, q⟩
theorem call_isKT : CallR X (.builtin "isinstance") (rIsKT X.K) := by
  intro pins s σ H xs us Q I r h
  obtain ⟨a, C, dd, tp, cs, fs, ws, b, rfl, hT, k, xc, hX, hD, e, q⟩ := h
  obtain ⟨u1, u2, rfl, r1, r2⟩ := vals2 r
  cases (show u2 = Value.ref tp from r2)
  cases (show u1 = Value.ref a from r1)
  obtain ⟨P, Z, p⟩ := kit_k xc I hX hD
  obtain ⟨_, its, rv, o, h1, h2, n, h3⟩ := (show ObjOk X.prog X.w H s.heap tp (.tup cs) from I.hok tp _ hT)
  have e3 := ClsV.all k rv
  subst e3
  obtain ⟨oc, od, dt, sl⟩ := o
  simp only at h2 h3
  subst h2 h3
  exact PySem.W.kia_tup Z I.kIn p h1 e (fun z => nomatch z) fun tk => ⟨.bl b, H, I.tok tk, rfl, q⟩
end
end L2

set_option Elab.async false
set_option linter.all false
set_option maxRecDepth 100000
set_option maxHeartbeats 4000000
namespace My
open PySem L2 PyProof.Rows
/-- what is known of a built-in error class and of its __init__, whatever the program -/
structure BT (T initId : String) : Prop where
  ini : InitF T initId
  boot : bootBuiltins (Str.ofString T) = some (.type T)
  ty : typeOf (.type T) = pure (.type "type")
  stub : Manifest.isStub T = false
  nn : Str.ofString T ≠ "__name__"
  nd : (Str.ofString T == ("__debug__" : Str)) = false
  hh : PySem.W.handedIn (.builtin initId) = true
theorem btValueError : BT "ValueError" "ValueError.__init__" := ⟨InitF.of PySem.F.excCall_ValueError, by kernel_rfl, by kernel_rfl, by decide +kernel, by decide +kernel, by decide +kernel, by decide +kernel⟩
theorem btKeyError : BT "KeyError" "KeyError.__init__" := ⟨initKey, by kernel_rfl, by kernel_rfl, by decide +kernel, by decide +kernel, by decide +kernel, by decide +kernel⟩
theorem btIndexError : BT "IndexError" "IndexError.__init__" := ⟨InitF.of PySem.F.excCall_IndexError, by kernel_rfl, by kernel_rfl, by decide +kernel, by decide +kernel, by decide +kernel, by decide +kernel⟩
/-- __init__ of a class with one field -/
def spI1 (C : Addr) (f : Str) : Sp := fun vs H Q _ => ∃ (a : Addr) (v : V), vs = [.ref a, v] ∧ H a = some (exo a C none) ∧
  ∀ dx, H dx = none → dx ≠ a → Q .non (upd (upd H dx (exd dx [(f, v)])) a (exo a C (some dx)))
end My
namespace L2
open PySem PySem.Spec PyProof.Rows My
/-! ### raise C(..) of a class straight under any built-in error -/
section
variable {X : Cx} {e : Expr} {es : List Expr} {ta : TA} {p pos : Pos}
theorem pmk_xm {CX : CXT} {x : Str} {C fI : Addr} {T : String} {k : Nat} {fd : FuncData} {ps : List Str} {sp : Sp} {ds : List Value} {dvs : List V} (x0 : XC X.K C T) (tyC : PySem.W.typeIn X.K (.ref C) = some (.type "type"))
    (iC : PySem.W.findIn X.K (.ref C) "__init__" = some (some (.ref fI))) (tI : PySem.W.typeIn X.K (.ref fI) = some (.type "function"))
    (F1 : FnOk X.prog X.w X.K X.mg X.base CX k fI fd ps sp) (hr : Room (k + 1) X.A) (hb : Binds X.K fd ps ds) (hd : Vals dvs ds) (hx : Passes CX X (fun _ _ _ => False)) (hg : Gl X x) (hm : X.mg x = some (.ref C)) (ha : PA X (e :: es) ta)
    (hdb : (x == ("__debug__" : Str)) = false := by decide) (he : starEach (e :: es) X.env = (false, eval e X.env) :: starEach es X.env := by rfl) (hpl : (backTo pos (starEach es X.env)).any (·.1) = false := by rfl) :
    PMk X (.Call (.Name x p) (e :: es) [] pos) (tMkO C sp dvs ta) := by
  intro pins s σ H Q I h
  obtain ⟨nm, N, qn, bs, bm, hdct, sn, sub, ab, col, dd, k0, k1, k2, k3, k5, B, newId, initB, bmF, hC, FB, tl, _⟩ := x0.at I.kIn
  refine wpAny_Call_Name_kw (ld_glob I hg hm ?_ hdb)
  refine PySem.W.callWith_K (h₀ := X.base) I.ok.mod.kin x0.kp (thn (ha.run pos pins s σ H _ I h) fun us s1 ⟨vs, H1, I1, r1, hz, q1⟩ => ⟨I1.kIn, ?_⟩) he hpl
  show wpAny _ _ (call (.ref C) us) _ _ _
  obtain ⟨nm, N, qn, bs, bm, hdct, sn, sub, ab, col, dd, k0, k1, k2, k3, k5, B, newId, initB, bmF, hC, FB, tl, _⟩ := x0.at I1.kIn
  have li := PySem.W.looks_findIn (M := model X.prog X.w) I1.kIn iC
  have lb := fun self => PySem.W.bind_fn (M := model X.prog X.w) I1.kIn self tI
  obtain ⟨hp, g, dr, tk, os⟩ := s1
  have hsz : hp.objs.size ≤ hp.objs.size + 1 := Nat.le_succ _
  have hn : H1 (hp.objs.size + 1) = none := I1.hok.fresh hsz
  have hq := q1 (hp.objs.size + 1) hn
  have kk : ∀ b o, hp.get? b = some o → ((hp.push (PySem.W.kdv_tup us)).push (raw C hp.objs.size)).get? b = some o := fun b o e => Heap.get?_push_of_some _ (Heap.get?_push_of_some _ e)
  have hget : ((hp.push (PySem.W.kdv_tup us)).push (raw C hp.objs.size)).get? (hp.objs.size + 1) = some (raw C hp.objs.size) := by heap_get
  have I2 : Inv X pins σ (upd H1 (hp.objs.size + 1) (exo (hp.objs.size + 1) C none)) ⟨(hp.push (PySem.W.kdv_tup us)).push (raw C hp.objs.size), g, dr, tk, os⟩ :=
    I1.laid (t' := tk) (a := hp.objs.size + 1) (o := exo (hp.objs.size + 1) C none) (h' := (hp.push (PySem.W.kdv_tup us)).push (raw C hp.objs.size)) kk hsz (exo_ok hget)
  have r2 : Vals (V.ref (hp.objs.size + 1) :: (vs ++ dvs)) (Value.ref (hp.objs.size + 1) :: (us ++ ds)) := .cons rfl (r1.append hd)
  have hl : (Value.ref (hp.objs.size + 1) :: us ++ ds).length = ps.length := by
    have e := r2.length
    rw [F1.len _ _ _ _ hq] at e
    exact e.symm
  have hus : us.length ≤ sizeLine := by
    rw [← Paired.length r1, PySem.sizeLine_eq]
    omega
  refine wpAny_call (callIt FB tl hC li lb hus
    (codeAny_mono (F1.run _ X.stack _ _ ⟨Value.ref (hp.objs.size + 1) :: us, []⟩ (Value.ref (hp.objs.size + 1) :: (us ++ ds)) _ _ (fun _ _ _ => False) (hr.make C us []) (I2.env0.make C us []) (hb _ (Value.ref (hp.objs.size + 1) :: us) I2.kIn hl) r2 hq) fun r s' hq' => ?_))
  cases r with
  | error er => exact hx pins σ _ _ er s' I2 hq'
  | ok fl =>
    cases fl with
    | ret u =>
      obtain ⟨v, H2, os2, bare2, un2, hok2, rv, ev, d, fs, ea, ed, hd1, q2⟩ := hq'
      subst ev
      obtain ⟨h2, g2, d2, t2, os'⟩ := s'
      exact ⟨rv, mk_end (raises_own x0.ex tyC) I1 hsz kk un2 hok2 os2 bare2 ea ed hd1 q2⟩
    | next => exact False.elim hq'
    | brk => exact False.elim hq'
    | cont => exact False.elim hq'
end
/-! ### try .. except (X, Y) as n: k = n -/
theorem flying_keeps {base h h' : Heap} {l : List Env} {e : Addr} {Z : Obj → Prop} (k : ∀ q o, h.get? q = some o → h'.get? q = some o) (fl : HandSPX.FlyingZ base l e Z h) : HandSPX.FlyingZ base l e Z h' := by
  obtain ⟨st, gB, ff, oe, vs, T, oT, ts, h1, h2, h3, h4, h5, h6, h7, h8, h9⟩ := fl
  exact ⟨fun b o q => k _ _ (st b o q), gB, Heap.FunFrames.of_keeps (fun b o q _ => ⟨o, k b o q, rfl⟩) ff, oe, vs, T, oT, ts, k _ _ h1, h2, h3, h4, h5, h6, k _ _ h7, h8, h9⟩
def wKeep2 (K : PySem.W.Frag) (c1 c2 : Value) (i j : Nat) (D : Ends) : WX := fun cls d σ H =>
  PySem.W.exmAny K cls [c1, c2] = some true ∧ ∀ a, H a = none → D.nx (((σ.set i (some (.ref a))).set j (some (.ref a))).set i none) (upd H a (Exk cls d a))
section
variable {X : Cx} {x1 x2 n : Str} {c1 c2 : Value} {i j kk : Nat} {body suite : List Stmt} {b₀ : Stmt} {np1 np2 tpos pos pos' : Pos} {tb : WX → TS}
theorem ps_try_keep2 (hs : X.stack = X.env :: X.outer) (hex : X.ex = []) (hf : X.env.frame = some X.env.locals) (hN : X.N.Nodup) (hi : X.N[i]? = some n) (hln : X.env.kindOf n = some .local) (hc1 : Names X x1 c1) (hc2 : Names X x2 c2)
    (hb : ∀ (W : WX) (pn : List (Addr × Obj)) (xe : Value → Shared → Prop), Takes (X.tr pn xe) W → PassesOwn (model X.prog X.w) X.A X.env xe → PSs (X.tr pn xe) body (tb W))
    (hsu : ∀ (a : Addr) (oe : Obj) (cls : Value) (d : Option Addr) (pn : List (Addr × Obj)), Zc cls d oe → (∃ vs, oe.data = .fields vs) → PSs (X.suite a ((a, oe) :: pn)) (b₀ :: suite) (tAsg (tVar i) (gName j))) :
    PS X (.Try body [.ExceptHandler (some (.Tuple [.Name x1 np1, .Name x2 np2] kk tpos)) (some n) (b₀ :: suite) pos'] [] [] pos) (fun D σ H => tb (wKeep2 X.K c1 c2 i j D) D σ H) := by
  refine ⟨fun pins s σ H D I h => wpAny_Try_except ?_⟩
  have fr : X.A.frames = some (X.env :: X.outer) := I.ok.frames.trans (congrArg some hs)
  have caught : ∀ u s', XE (X.tr (X.pn ++ pins) fun e s₁ => wpAny (model X.prog X.w) X.A (noteFrame e X.env) (fun _ s₂ => wpAny (model X.prog X.w) X.A (setFlight e none) (fun _ s₃ =>
      wpAny (model X.prog X.w) X.A (handleBy e X.env [.ExceptHandler (some (.Tuple [.Name x1 np1, .Name x2 np2] kk tpos)) (some n) (b₀ :: suite) pos']) (SP X pins D) X.xe s₃) X.xe s₂) X.xe s₁) (wKeep2 X.K c1 c2 i j D) u s' →
      wpAny (model X.prog X.w) X.A (noteFrame u X.env) (fun _ s₂ => wpAny (model X.prog X.w) X.A (setFlight u none) (fun _ s₃ => wpAny (model X.prog X.w) X.A (handleBy u X.env [.ExceptHandler (some (.Tuple [.Name x1 np1, .Name x2 np2] kk tpos)) (some n) (b₀ :: suite) pos']) (SP X pins D) X.xe s₃) X.xe s₂) X.xe s' := by
    rintro u s' ⟨a, B, sI, pins', σ', H', cls, d, rfl, J', nb, up, sky, na, os, ag, hm, hw⟩
    have J : Inv X pins σ' H' sI := J'.ofTry I.ok
    refine Sky.land Zc.steady fr hf (by rw [← hs]; exact sky) fun h3 fl3 up3 => ?_
    have L3 : Land X pins σ' H' { s' with heap := h3 } a cls d := land_of hs hex hf J nb (up.trans up3) fl3 na os ag
    obtain ⟨oe3, z3, f3, S3⟩ := L3.suite
    obtain ⟨ob, _, g3, y3, _⟩ := L3.obj
    have ty : PySem.W.Looks (model X.prog X.w) h3 (typeOf (.ref a)) cls := fun _ _ _ _ k q => wpAny_typeOf_ref (k _ _ g3) (y3.1.symm ▸ q)
    refine wpAny_handleBy_cons (codeAny_handlers_test ?_) Value.noConfusion
    have name : ∀ {x : Str} {np : Pos} {c : Value} (hc : Names X x c) {Q : Value → Shared → Prop} {E : Value → Shared → Prop}, Q c { s' with heap := h3 } → wpAny (model X.prog X.w) (X.A.mark (some (.ref a))) (eval (.Name x np) X.env) Q E { s' with heap := h3 } := by
      intro x np c hc Q E q
      rcases hc with ⟨hg, hdbg, hm | ⟨hm, hv, hnn⟩⟩
      · exact ld_glob S3 hg hm q hdbg
      · exact ld_blt S3 hg hm hv q hnn hdbg
    refine wpAny_Tuple ?_
    refine wpAny_items_cons (name hc1 ?_)
    refine wpAny_items_cons (name hc2 ?_)
    refine wpAny_items_nil ⟨by size_fits, ?_⟩
    have kp : ∀ q o, h3.get? q = some o → (h3.push { cls := .type "tuple", data := .seq [c1, c2].toArray }).get? q = some o := fun _ _ z => Heap.get?_push_of_some _ z
    have fl3' := flying_keeps kp fl3
    have up3' : s'.heap.UpToSlots (h3.push { cls := .type "tuple", data := .seq [c1, c2].toArray }) := up3.trans (Heap.UpToSlots.of_keeps kp)
    have L3' : Land X pins σ' H' { s' with heap := h3.push { cls := .type "tuple", data := .seq [c1, c2].toArray } } a cls d := land_of hs hex hf J nb (up.trans up3') fl3' na os ag
    have ty' : PySem.W.Looks (model X.prog X.w) (h3.push { cls := .type "tuple", data := .seq [c1, c2].toArray }) (typeOf (.ref a)) cls := ty.keeps kp
    refine (PySem.W.exm_tup2 L3'.inv.kIn ty' (Heap.get?_push_size h3 rfl) hm).here (codeAny_handlers_suite_as (HandSPX.lands_againZ fl3' fun h4 fl4 up4 => ?_))
    have L4 : Land X pins σ' H' { s' with heap := h4 } a cls d := land_of hs hex hf J nb ((up.trans up3').trans up4) fl4 na os ag
    obtain ⟨oe4, z4, f4, S4⟩ := L4.suite
    refine store_ok (X := X.suite a ((a, oe4) :: (X.pn ++ pins))) (v := .ref a) S4 hN hi (.inl hln) rfl (fun s5 S5 => ?_) (.inr hln)
    refine wpAny_mono ((hsu a oe4 cls d _ z4 f4).run [] s5 _ H' { nx := fun σ6 H6 => D.nx (σ6.set i none) (upd H6 a (Exk cls d a)), rt := fun _ _ => False, bk := fun _ _ => False, ct := fun _ _ => False } S5 ?_) (fun f s6 e6 => ?_) fun _ _ z => z.elim
    · refine ⟨.ref a, ?_, hw a na⟩
      have hl : i < σ'.length := by
        have := (List.getElem?_eq_some_iff.mp hi).1
        rw [J.len]; exact this
      rw [List.getElem?_set_self hl]
    · cases f with
      | next =>
        obtain ⟨σ6, H6, S6, q6⟩ := e6
        exact gone_ok (L4.kept z4 f4 S6) hN hi hln fun s7 J7 => ⟨_, _, J7, q6⟩
      | brk => obtain ⟨_, _, _, q⟩ := e6; exact q.elim
      | cont => obtain ⟨_, _, _, q⟩ := e6; exact q.elim
      | ret u => obtain ⟨_, _, _, _, _, q⟩ := e6; exact q.elim
  refine wpAny_mono ((hb _ (X.pn ++ pins) _ caught PassesOwn.looking).run [] s σ H D (I.toTry _) h) (fun f s1 e1 => ?_) fun _ _ z => z
  cases f with
  | next => obtain ⟨σ1, H1, J1, q⟩ := e1; exact wpAny_execs_nil ⟨σ1, H1, J1.ofTry I.ok, q⟩
  | brk => obtain ⟨σ1, H1, J1, q⟩ := e1; exact ⟨σ1, H1, J1.ofTry I.ok, q⟩
  | cont => obtain ⟨σ1, H1, J1, q⟩ := e1; exact ⟨σ1, H1, J1.ofTry I.ok, q⟩
  | ret u => obtain ⟨v1, σ1, H1, J1, r, q⟩ := e1; exact ⟨v1, σ1, H1, J1.ofTry I.ok, r, q⟩
end
end L2

set_option Elab.async false
set_option linter.all false
set_option maxRecDepth 100000
set_option maxHeartbeats 4000000
namespace My
open PySem L2 PyProof.Rows
section
variable {P : Program} {w : World} {K : PySem.W.Frag} {mg : Str → Option Value} {pB : Heap} {c : CC}
/-! ### refusals -/
theorem scNS : FnScope ["self", "thing"] ["self", "thing"] (d_NoScript_init).scope := ⟨rfl, rfl, rfl, by decide +kernel, rfl, by decide +kernel, by decide +kernel⟩
theorem ok_ns {f C : Addr} {fd : FuncData} (F : FnDd K d_NoScript_init f fd) (x : XC K C "ValueError") (mT : mg "ValueError" = none) (vV : PySem.W.findCls K (.type "ValueError") (.type "type") "__init__" = some (.val (.builtin "ValueError.__init__"))) (nf : PySem.W.findIn K (.ref C) "thing" = some none) {CX : CXT} :
    FnOk P w K mg pB CX 1 f fd ["self", "thing"] (spI1 C "thing") := by
  refine F.ok scNS (fun vs H Q E h => ?_) (fun cdv A outer s H vs Q E hr h => ?_)
  · obtain ⟨a, v, rfl, _⟩ := h
    rfl
  · obtain ⟨a, v, rfl, ha, k⟩ := h
    refine ⟨_, pss_cons (ps_expr (pe_binit btValueError.ini rfl (by rfl) mT btValueError.boot btValueError.ty btValueError.stub btValueError.nn btValueError.nd btValueError.hh vV (pa_cons (pv 0) (pa_cons pe_str pa_nil)))) (pss_one (ps_xst (T := "ValueError") (pv 0) (pv 1))), ?_⟩
    exact ⟨_, rfl, a, C, [_], rfl, (by show 1 ≤ 1000; decide), x, ha, _, rfl, _, rfl, a, C, rfl, x, nf, .inl ⟨ha, fun dx n ne => k dx n ne⟩⟩
theorem scNR : FnScope ["self", "rank"] ["self", "rank"] (d_NoRank_init).scope := ⟨rfl, rfl, rfl, by decide +kernel, rfl, by decide +kernel, by decide +kernel⟩
theorem ok_nr {f C : Addr} {fd : FuncData} (F : FnDd K d_NoRank_init f fd) (x : XC K C "IndexError") (mT : mg "IndexError" = none) (vV : PySem.W.findCls K (.type "IndexError") (.type "type") "__init__" = some (.val (.builtin "IndexError.__init__"))) (nf : PySem.W.findIn K (.ref C) "rank" = some none) {CX : CXT} :
    FnOk P w K mg pB CX 1 f fd ["self", "rank"] (spI1 C "rank") := by
  refine F.ok scNR (fun vs H Q E h => ?_) (fun cdv A outer s H vs Q E hr h => ?_)
  · obtain ⟨a, v, rfl, _⟩ := h
    rfl
  · obtain ⟨a, v, rfl, ha, k⟩ := h
    refine ⟨_, pss_cons (ps_expr (pe_binit btIndexError.ini rfl (by rfl) mT btIndexError.boot btIndexError.ty btIndexError.stub btIndexError.nn btIndexError.nd btIndexError.hh vV (pa_cons (pv 0) (pa_cons pe_str pa_nil)))) (pss_one (ps_xst (T := "IndexError") (pv 0) (pv 1))), ?_⟩
    exact ⟨_, rfl, a, C, [_], rfl, (by show 1 ≤ 1000; decide), x, ha, _, rfl, _, rfl, a, C, rfl, x, nf, .inl ⟨ha, fun dx n ne => k dx n ne⟩⟩
/-- all that is wanted of a class to raise it -/
structure Xr (P : Program) (w : World) (K : PySem.W.Frag) (mg : Str → Option Value) (pB : Heap) (x fld : Str) (T : String) (C f : Addr) (fd : FuncData) : Prop where
  x0 : XC K C T
  ty : PySem.W.typeIn K (.ref C) = some (.type "type")
  iC : PySem.W.findIn K (.ref C) "__init__" = some (some (.ref f))
  tI : PySem.W.typeIn K (.ref f) = some (.type "function")
  G : FnOk P w K mg pB CX0 1 f fd ["self", fld] (spI1 C fld)
  b : Binds K fd ["self", fld] []
  m : mg x = some (.ref C)
/-- C(v) made, read -/
theorem rd_xm {C : Addr} {f : Str} {H : Hp} {Q : XK} {v : V} (h : ∀ d H', Same H H' → H d = none → H' d = some (.xd [(f, v)]) → Q (.ref C) (some d) H') :
    ∀ a, H a = none → spI1 C f (.ref a :: ([v] ++ [])) (upd H a (exo a C none)) (fun v H2 => v = .non ∧ ∃ (d : Addr) (fs : List (Str × V)), H2 a = some (exo a C (some d)) ∧ H2 d = some (exd d fs) ∧ H d = none ∧ Q (.ref C) (some d) (upd (del H2 a) d (.xd fs))) (fun _ _ _ => False) := by
  intro a ha
  refine ⟨a, v, rfl, upd_same, fun dx hdx ne => ⟨rfl, dx, [(f, v)], upd_same, by rw [upd_ne ne, upd_same], by rw [upd_ne ne] at hdx; exact hdx, ?_⟩⟩
  rw [upd_ne ne] at hdx
  refine h dx _ (fun b o e => ?_) hdx upd_same
  have nb : b ≠ a := ne_of_none e ha
  have nd : b ≠ dx := ne_of_none e hdx
  rw [upd_ne nd, del_ne nb, upd_ne nb, upd_ne nd, upd_ne nb]
  exact e
/-! ### a work is put from outside -/
def postM (M : Mach) (i : Nat) (dn : PyData) (ds : List PyData) : Mach := putM { M with numbers := M.numbers + 1 } i ⟨M.numbers, dn, ds, .none, none, none⟩
theorem hp_seq {a b : TS} {D : Ends} {σ : L2.St} {H1 H2 : Hp} (e : H1 = H2) (h : tSeq a b D σ H2) : tSeq a b D σ H1 := by rw [e]; exact h
theorem drop3 {sp : Sp} {ta tb tc : TE} {b : TS} {D : Ends} {σ : L2.St} {H : Hp} (h : ta σ H fun x H1 => tb σ H1 fun y H2 => tc σ H2 fun z H3 => sp [x, y, z] H3 (fun _ H4 => b D σ H4) E0) : tSeq (tDrop (tCall sp [] E0 (tCons ta (tCons tb (tCons tc tNil))))) b D σ H := h
abbrev nPost : List Str := ["self", "script", "rank", "name", "state", "number"]
abbrev pPost : List Str := ["self", "script", "rank", "name"]
theorem scPost : FnScope nPost pPost (d_Loop_post).scope := ⟨rfl, rfl, rfl, by decide +kernel, rfl, by decide +kernel, by decide +kernel⟩
def spPost (K : PySem.W.Frag) (c : CC) (CS CR : Addr) : Sp := fun vs H Q E => ∃ (lp : Addr) (L : Ly) (M : Mach) (v : V) (m : Nat) (d : PyData) (vr : V) (mr : Nat) (dr : PyData) (vn : V) (dn : PyData),
  vs = [.ref lp, v, vr, vn] ∧ IsLp c H lp L ∧ MR K c H L M ∧ M.busy = false ∧ M.ticks < 999999 ∧ Rep H m v d ∧ szD d ≤ 1000000 ∧ Rep H mr vr dr ∧ Dt K H vn dn ∧
  (isS d = false → ∀ a H', Same H H' → H a = none → H' a = some (.xd [("thing", v)]) → E (.ref CS) (some a) H') ∧
  (isS d = true → btw 0 ((M.queues.length : Int) - 1) dr = false → ∀ a H', Same H H' → H a = none → H' a = some (.xd [("rank", vr)]) → E (.ref CR) (some a) H') ∧
  (isS d = true → btw 0 ((M.queues.length : Int) - 1) dr = true → ∃ (ds : List PyData) (i : Nat), d = .tuple ds ∧ vr = .int (i : Int) ∧ i < M.queues.length ∧ Dt K H v (.tuple ds) ∧ ∀ H' L', MR K c H' L' (postM M i dn ds) → Stp H L H' L' → Q (.int (M.numbers : Int)) H')
theorem passX {X : Cx} {P : Program} {w : World} {E : XK} (h : ∀ pins σ H s e s', Inv X pins σ H s → L2.CX P w X.stack H s E e s' → X.xe e s') : Passes (L2.CX P w) X E := h
theorem ok_post {f fI fB fP fW fS fR CS CR : Addr} {fd dI dB dP dW dS dR : FuncData} {kI : Nat} (F : FnDd K d_Loop_post f fd) (X : MC K c) (Y : LC K c)
    (XS : Xr P w K mg pB "NoScript" "thing" "ValueError" CS fS dS) (XR : Xr P w K mg pB "NoRank" "rank" "IndexError" CR fR dR)
    (GI : FnOk P w K mg pB CX0 kI fI dI ["thing"] (spTest isS)) (CI : Cal K mg "is_script" fI dI ["thing"]) (GB : FnOk P w K mg pB CX0 1 fB dB ["thing", "least", "most"] spBtw) (CB : Cal K mg "is_between" fB dB ["thing", "least", "most"])
    (GP : FnOk P w K mg pB CX0 1 fP dP ["state", "rank", "work"] (spPutw K c)) (CP : Cal K mg "put_work" fP dP ["state", "rank", "work"])
    (GW : FnOk P w K mg pB CX0 1 fW dW nWork (spWork c.wk)) (MW : Mkc K mg "Work" c.wk fW dW nWork) (mLen : mg "len" = none) (hk : 2 ≤ kI) : FnOk P w K mg pB (L2.CX P w) (kI + 1) f fd pPost (spPost K c CS CR) := by
  refine F.ok scPost (fun vs H Q E h => ?_) (fun cdv A outer s0 H vs Q E hr h => ?_)
  · obtain ⟨lp, L, M, v, m, d, vr, mr, dr, vn, dn, rfl, _⟩ := h
    rfl
  · obtain ⟨lp, L, M, v, m0, d, vr, mr, dr, vn, dn, rfl, hlp, m, hb, htk, hR, hz, hRr, hn, k1, k2, k3⟩ := h
    have nd := scPost.nd
    have hr1 : Room 1 _ := hr.mono (show 1 ≤ kI by omega)
    have hr2 : Room 2 _ := hr.mono hk
    refine ⟨_, pss_cons (ps_set (i := 4) nd rfl (Or.inl rfl) (pe_fld (pv 0) (by rfl)))
      (pss_cons (ps_if (pt_val (pe_fld (pv 4) (by rfl))) (pss_one ps_never) pss_nil)
      (pss_cons (ps_if (pt_not (pt_val (pe_call GI hr (by rfl) CI.m CI.k CI.b .nil pass0 (pa_cons (pv 1) pa_nil)))) (pss_one (ps_raise rfl (takes_of rfl rfl rfl rfl) (pmk_xm XS.x0 XS.ty XS.iC XS.tI XS.G hr2 XS.b .nil pass0 (by rfl) XS.m (pa_cons (pv 1) pa_nil)))) pss_nil)
      (pss_cons (ps_if (pt_not (pt_val (pe_call GB hr1 (by rfl) CB.m CB.k CB.b .nil pass0 (pa_cons (pv 2) (pa_cons pe_int (pa_cons (pe_op op_sub (pe_callB call_len_seq (by rfl) mLen PySem.boot_len (pa_cons (pe_fld (pv 4) (by rfl)) pa_nil)) pe_int) pa_nil))))))
        (pss_one (ps_raise rfl (takes_of rfl rfl rfl rfl) (pmk_xm XR.x0 XR.ty XR.iC XR.tI XR.G hr2 XR.b .nil pass0 (by rfl) XR.m (pa_cons (pv 2) pa_nil)))) pss_nil)
      (pss_cons (ps_set (i := 5) nd rfl (Or.inl rfl) (pe_fld (pv 4) (by rfl)))
      (pss_cons (ps_fld (pv 4) (pe_op op_add (pv 5) pe_int) (by rfl))
      (pss_cons (ps_expr (pe_call GP hr1 (by rfl) CP.m CP.k CP.b .nil pass0 (pa_cons (pv 4) (pa_cons (pv 2) (pa_cons (pe_make MW.k GW hr2 (by rfl) MW.m MW.b .nil pass0 (pa_cons (pv 5) (pa_cons (pv 3) (pa_cons (pv 1) (pa_cons pe_non (pa_cons pe_non (pa_cons pe_non pa_nil))))))) pa_nil)))))
      (pss_one (ps_ret (pv 5))))))))), ?_⟩
    have N : ∀ f ∈ fState, NoAttr K c.st f := X.st.n
    refine asg_n (rdL Y hlp rfl ?_)
    refine ⟨_, rfl, L.ad .st, c.st, L.dx, _, .bl false, rfl, m.atS, X.st.c, N _ (by decide), lk_busy L hb, _, rfl, iteF (nxt_of ?_)⟩
    refine ⟨_, rfl, m0, v, d, rfl, hR, hz, fun H1 s1 => ⟨_, rfl, ?_⟩⟩
    cases hs : isS d with
    | false =>
      refine iteT ⟨_, rfl, by show 1 ≤ 1000; decide, rd_xm fun a H' s2 hn hx => k1 hs a H' (s1.trans s2) (none_back s1 hn) hx⟩
    | true =>
    refine iteF (nxt_of ?_)
    have m1 := m.same s1
    refine ⟨_, rfl, _, rfl, L.ad .st, c.st, L.dx, _, .ref (L.ad .queues), rfl, m1.atS, X.st.c, N _ (by decide), rfl, L.ad .queues, _, rfl, .inl (SqL.of m1.atQ), _, _, rfl, rfl, mr, vr, dr, 0, _, rfl, hRr.same s1, ?_⟩
    rw [List.length_map, List.length_range]
    refine ⟨_, rfl, ?_⟩
    cases hbt : btw 0 ((M.queues.length : Int) - 1) dr with
    | false =>
      refine iteT ⟨_, rfl, by show 1 ≤ 1000; decide, rd_xm fun a H' s2 hn hx => k2 hs hbt a H' (s1.trans s2) (none_back s1 hn) hx⟩
    | true =>
    obtain ⟨ds, i, rfl, rfl, hi, hd, k⟩ := k3 hs hbt
    refine iteF (nxt_of ?_)
    refine asg_n ⟨_, rfl, L.ad .st, c.st, L.dx, _, .int (M.numbers : Int), rfl, m1.atS, X.st.c, N _ (by decide), rfl, ?_⟩
    refine fld_of ⟨_, rfl, _, _, rfl, rfl, _, rfl, L.ad .st, c.st, L.dx, _, rfl, m1.atS, X.st.c, N _ (by decide), (show 18 < 1000 by decide), ?_⟩
    have m2 := m1.stS X.cn M.picks (M.numbers + 1) M.done M.clock M.flooded M.busy
    have s2 := (Stp.refl H1 L).put m1.cr (m1.ar.fx .st rfl) (o := .ins c.st L.dx (stF L { M with numbers := M.numbers + 1 }))
    refine hp_seq (show _ = L2.upd H1 (L.ad .st) (.ins c.st L.dx (stF L { M with numbers := M.numbers + 1 })) from ?_) ?_
    · rw [← put_numbers]; rfl
    have s02 := ((Stp.refl H L).tmp s1).trans s2
    obtain ⟨Lb, m2, s02, hst⟩ : ∃ Lb, MR K c (L2.upd H1 (L.ad .st) (.ins c.st L.dx (stF L { M with numbers := M.numbers + 1 }))) Lb { M with numbers := M.numbers + 1 } ∧ Stp H L (L2.upd H1 (L.ad .st) (.ins c.st L.dx (stF L { M with numbers := M.numbers + 1 }))) Lb ∧ Lb.ad .st = L.ad .st := ⟨_, m2, s02, rfl⟩
    generalize L2.upd H1 (L.ad .st) (.ins c.st L.dx (stF L { M with numbers := M.numbers + 1 })) = H2 at m2 s02 ⊢
    refine drop3 ?_
    refine ⟨_, rfl, _, rfl, _, rfl, _, rfl, _, rfl, fun wk dx h1 h2 hne => ⟨wk, dx, .int (M.numbers : Int), vn, v, .non, .non, .non, rfl, upd_same, rfl, ?_⟩⟩
    have s3 : Same H2 (L2.upd (L2.upd (L2.upd H2 dx (.own wk)) wk (.ins c.wk dx [])) wk (.ins c.wk dx (workF (.int (M.numbers : Int)) vn v .non .non .non .non))) := by
      rw [upd_upd]
      exact Same.new (Same.new (Same.refl _) h2) (by rw [upd_ne hne.symm]; exact h1)
    have hwk : (L2.upd (L2.upd (L2.upd H2 dx (.own wk)) wk (.ins c.wk dx [])) wk (.ins c.wk dx (workF (.int (M.numbers : Int)) vn v .non .non .non .non))) wk = some (.ins c.wk dx (wkF M.numbers vn v .non .non .non)) := upd_same
    generalize L2.upd (L2.upd (L2.upd H2 dx (.own wk)) wk (.ins c.wk dx [])) wk (.ins c.wk dx (workF (.int (M.numbers : Int)) vn v .non .non .non .non)) = H3 at s3 hwk ⊢
    have kp : Kept c H H3 := (s02.kept m.cr).trans (Kept.of s3)
    refine ⟨Lb, { M with numbers := M.numbers + 1 }, i, ⟨M.numbers, dn, ds, .none, none, none⟩, .ref wk, ?_, m2.same s3, hi, ⟨wk, dx, vn, v, .non, .non, .non, rfl, hwk, hn.kept kp, hd.kept kp, .non, .non, .non⟩, (show M.ticks < 1000000 by omega), fun H' L' m' s' => ⟨_, rfl, k H' L' m' ((s02.tmp s3).trans s')⟩⟩
    exact congrArg (fun a : Addr => [V.ref a, V.int (i : Int), V.ref wk]) hst.symm
end
end My

set_option Elab.async false
set_option linter.all false
set_option maxRecDepth 100000
set_option maxHeartbeats 4000000
namespace My
open PySem L2 PyProof.Rows
/-! ### what nobody took is told -/
def keyD : Key → PyData
  | .inl i => .int i
  | .inr x => .str x
theorem key_dt {K : PySem.W.Frag} {H : Hp} (k : Key) : Dt K H (kV k) (keyD k) := by
  cases k with
  | inl i => exact .int i
  | inr x => exact .str x
def tellAllM (M : Mach) (ks : List Key) : Mach := ks.foldl (fun M k => tellM M [.str "unhandled", keyD k]) M
theorem tellAllM_snoc (M : Mach) (ks : List Key) (k : Key) : tellAllM M (ks ++ [k]) = tellM (tellAllM M ks) [.str "unhandled", keyD k] := by
  unfold tellAllM
  rw [List.foldl_append]
  rfl
theorem tellAllM_ticks : ∀ (ks : List Key) (M : Mach), (tellAllM M ks).ticks = M.ticks + ks.length
  | [], _ => rfl
  | k :: r, M => by
    have ih := tellAllM_ticks r (tellM M [.str "unhandled", keyD k])
    have e : (tellM M [.str "unhandled", keyD k]).ticks = M.ticks + 1 := rfl
    show (tellAllM (tellM M [.str "unhandled", keyD k]) r).ticks = _
    rw [ih, e, List.length_cons]
    omega
theorem tellAllM_untold : ∀ (ks : List Key) (M : Mach), (tellAllM M ks).untold = M.untold
  | [], _ => rfl
  | k :: r, M => tellAllM_untold r (tellM M [.str "unhandled", keyD k])
def untoldM (M : Mach) : Mach := { tellAllM M (M.untold.map (·.1)) with untold := [] }
theorem ad_new {L : Ly} {t x : Tag} {p : Addr} {o : HO} (h : x ≠ t) : (L.new t p o).ad x = L.ad x := if_neg h
theorem ob_new {L : Ly} {t x : Tag} {p : Addr} {o : HO} (h : x ≠ t) : (L.new t p o).ob x = L.ob x := if_neg h
theorem upd_com {H : Hp} {a b : Addr} {o u : HO} (h : a ≠ b) : L2.upd (L2.upd H a o) b u = L2.upd (L2.upd H b u) a o := by
  funext x
  by_cases h1 : x = a
  · subst h1
    rw [upd_ne h, upd_same, upd_same]
  · by_cases h2 : x = b
    · subst h2
      rw [upd_same, upd_ne h1, upd_same]
    · rw [upd_ne h2, upd_ne h1, upd_ne h1, upd_ne h2]
section
variable {P : Program} {w : World} {K : PySem.W.Frag} {mg : Str → Option Value} {pB : Heap} {c : CC}
/-- a new empty dict for untold -/
theorem MR.untoldN {H : Hp} {L : Ly} {M : Mach} {p : Addr} (X : MC K c) (m : MR K c H L M) (hp : H p = none) :
    MR K c (L2.upd (L2.upd H p (.dK [])) (L.ad .bk) (.ins c.bk L.bdx (putF "untold" (.ref p) (bkF L)))) ((L.new .untold p (.dK [])).put .bk (.ins c.bk L.bdx (putF "untold" (.ref p) (bkF L)))) { M with untold := [] } := by
  have h1 := m.cr.new (t := .untold) (o := .dK []) hp nf_d
  have eb : (L.new .untold p (.dK [])).ad .bk = L.ad .bk := ad_new (by decide)
  have h2 := h1.put (t := .bk) (o := .ins c.bk L.bdx (putF "untold" (.ref p) (bkF L))) (.inr (m.ar.fx .bk rfl)) (nf_bk X.cn)
  rw [eb] at h2
  have kp : Kept c H (L2.upd (L2.upd H p (.dK [])) (L.ad .bk) (.ins c.bk L.bdx (putF "untold" (.ref p) (bkF L)))) := by
    refine (Kept.of (c := c) (Same.new (o := .dK []) (Same.refl H) hp)).trans (Kept.refl.upd (o := .ins c.bk L.bdx (bkF L)) ?_ (nf_bk X.cn))
    rw [upd_ne (ne_of_none m.atB hp)]
    exact m.atB
  have a := m.ar.kept kp
  refine ⟨h2, { a with
    fx := fun t ht => .inr (a.fx t ht)
    st := a.st
    bk := rfl
    lines := fun i ws e => by obtain ⟨l, r⟩ := a.lines i ws e; exact ⟨.inr l, r⟩
    plans := fun q hq => by obtain ⟨l, r⟩ := a.plans q hq; exact ⟨.inr l, r⟩
    tls := fun j ts e => by obtain ⟨l, r⟩ := a.tls j ts e; exact ⟨.inr l, r⟩
    untold := rfl
    bd2 := by have := a.bd2; simp only [List.length_nil]; omega }⟩
theorem scTU : FnScope ["state", "book", "number"] ["state"] (d_tell_unhandled).scope := ⟨rfl, rfl, rfl, by decide +kernel, rfl, by decide +kernel, by decide +kernel⟩
def spTU (K : PySem.W.Frag) (c : CC) : Sp := fun vs H Q _ => ∃ (L : Ly) (M : Mach), vs = [.ref (L.ad .st)] ∧ MR K c H L M ∧ M.ticks + M.untold.length < 1000000 ∧ ∀ H' L', MR K c H' L' (untoldM M) → Stp H L H' L' → Q .non H'
theorem ok_tu {f fO : Addr} {fd dO : FuncData} (F : FnDd K d_tell_unhandled f fd) (X : MC K c) (GO : FnOk P w K mg pB CX0 1 fO dO ["state"] (spOwn K c)) (CO : Cal K mg "own_book" fO dO ["state"]) : FnOk P w K mg pB CX0 2 f fd ["state"] (spTU K c) := by
  refine F.ok scTU (fun vs H Q E h => ?_) (fun cdv A outer s0 H vs Q E hr h => ?_)
  · obtain ⟨L, M, rfl, _⟩ := h
    rfl
  · obtain ⟨L, M, rfl, m, ht, k⟩ := h
    have nd := scTU.nd
    refine ⟨_, PSs.nox <| pss_cons (ps_set (i := 1) nd rfl (Or.inl rfl) (pe_call GO (hr.mono (by decide)) (by rfl) CO.m CO.k CO.b .nil pass0 (pa_cons (pv 0) pa_nil)))
      (pss_cons (ps_lock (ps_for PassesOwn.never rfl (pi_keys (pe_fld (pv 1) (by rfl))) (pg_name (i := 2) nd rfl (Or.inl rfl))
        (pss_one (ps_expr (pe_bm PySem.F.plainAttrs_list PySem.F.slot_list_append PySem.F.type_list_append mt_append (pe_fld (pv 0) (by rfl)) (pa_cons (pe_tup (pa_cons (pe_fld (pv 0) (by rfl)) (pa_cons pe_str (pa_cons (pv 2) pa_nil)))) pa_nil))))))
      (pss_one (ps_fld (pv 1) pe_dnewK (by rfl)))), ?_⟩
    refine asg_n (call_of ⟨_, rfl, L, M, rfl, m, ?_⟩)
    have hun := m.atL rfl m.ar.untold
    have b2 := m.ar.bd2
    refine gmid_of (fun σ' H' => (σ'[0]? = some (some (.ref (L.ad .st))) ∧ σ'[1]? = some (some (.ref (L.ad .bk)))) ∧ ∃ L', MR K c H' L' (tellAllM M (M.untold.map (·.1))) ∧ Stp H L H' L') (fun N hN => ?_) (fun σ' H' hm => ?_)
    · refine ⟨L.ad .untold, .dK (kvD vT M.untold), hun, trivial, fun od => ?_⟩
      have neT : ∀ {H0 : Hp} {L0 : Ly} {M0 : Mach} {t : Tag}, MR K c H0 L0 M0 → t.fixed = true → t ≠ .untold → L0.ad t ≠ L0.ad .untold := fun {H0 L0 M0 t} m0 ht hne z => by
        have q1 := m0.cr.ro t (m0.ar.fx t ht)
        rw [z, m0.cr.ro .untold (m0.ar.fx .untold rfl)] at q1
        exact hne (Option.some.inj q1).symm
      have eB : (L2.upd H (L.ad .untold) (.frz od (.dK (kvD vT M.untold)))) (L.ad .bk) = some (.ins c.bk L.bdx (bkF L)) := by rw [upd_ne (neT m rfl (by decide))]; exact m.atB
      refine ⟨_, rfl, L.ad .bk, c.bk, L.bdx, _, .ref (L.ad .untold), rfl, eB, X.bk.c, X.bk.n _ (by decide), rfl, L.ad .untold, od, rfl, .inl ⟨kvD vT M.untold, upd_same, ?_⟩⟩
      refine for_it walk_keys (fun i σ' Hl => (σ'[0]? = some (some (.ref (L.ad .st))) ∧ σ'[1]? = some (some (.ref (L.ad .bk))) ∧ σ'.length = 3) ∧ ∃ (H0 : Hp) (L' : Ly), Hl = L2.upd H0 (L.ad .untold) (.frz od (.dK (kvD vT M.untold))) ∧ H0 (L.ad .untold) = some (.dK (kvD vT M.untold)) ∧ L'.ad = L.ad ∧ MR K c H0 L' (tellAllM M ((M.untold.map (·.1)).take i)) ∧ Stp H L H0 L') ?_ ?_ ?_ ?_
      · exact ⟨⟨rfl, rfl, rfl⟩, H, L, rfl, hun, rfl, m, Stp.refl H L⟩
      · rintro i σ' Hl hi ⟨_, H0, L', rfl, _⟩
        exact upd_same
      · rintro i x σ' Hl Hl' hi ⟨⟨g0, g1, g2⟩, H0, L', rfl, hu0, ea, m0, s0'⟩ ⟨rfl, ky, vy, hk, rfl⟩
        have hk2 : (M.untold.map (·.1))[i]? = some ky := by
          have hi2 : M.untold[i]? = some (ky, ()) := by
            unfold kvD at hk
            rw [List.getElem?_map] at hk
            cases q : M.untold[i]? with
            | none => rw [q] at hk; cases hk
            | some z => rw [q] at hk; obtain ⟨a, b⟩ := z; cases hk; rfl
          rw [List.getElem?_map, hi2]; rfl
        have hlen : kvD vT M.untold = kvD vT M.untold := rfl
        have hi' : i < M.untold.length := by rw [len_mk] at hi; exact hi
        have tl : ((M.untold.map (·.1)).take i).length = i := by rw [List.length_take, List.length_map]; omega
        have htk := tellAllM_ticks ((M.untold.map (·.1)).take i) M
        rw [tl] at htk
        have nS : L.ad .st ≠ L.ad .untold := neT m rfl (by decide)
        have nE : L.ad .events ≠ L.ad .untold := neT m rfl (by decide)
        have atS := m0.atS
        rw [ea] at atS
        obtain ⟨evs, ee, de⟩ := m0.ar.events
        have hev := m0.atL (t := .events) rfl ee
        rw [ea] at hev
        have q0 : (σ'.set 2 (some (kV ky)))[0]? = some (some (.ref (L.ad .st))) := by rw [List.getElem?_set_ne (by decide), g0]
        have q1 : (σ'.set 2 (some (kV ky)))[1]? = some (some (.ref (L.ad .bk))) := by rw [List.getElem?_set_ne (by decide), g1]
        have q2 : (σ'.set 2 (some (kV ky)))[2]? = some (some (kV ky)) := List.getElem?_set_self (by rw [g2]; decide)
        have eS : (L2.upd H0 (L.ad .untold) (.frz od (.dK (kvD vT M.untold)))) (L.ad .st) = some (.ins c.st L'.dx (stF L' (tellAllM M ((M.untold.map (·.1)).take i)))) := by rw [upd_ne nS]; exact atS
        have lE : (stF L' (tellAllM M ((M.untold.map (·.1)).take i))).lookup ("events" : Str) = some (.ref (L.ad .events)) := by rw [← ea]; rfl
        have lC : (stF L' (tellAllM M ((M.untold.map (·.1)).take i))).lookup ("clock" : Str) = some (.int (tellAllM M ((M.untold.map (·.1)).take i)).clock) := rfl
        refine ⟨_, q0, L.ad .st, c.st, L'.dx, _, .ref (L.ad .events), rfl, eS, X.st.c, X.st.n _ (by decide), lE, .inl ⟨rfl, _, SqL.of (xs := evs) (by rw [upd_ne nE]; exact hev)⟩, _, q0, L.ad .st, c.st, L'.dx, _, _, rfl, eS, X.st.c, X.st.n _ (by decide), lC, _, q2, by show 3 ≤ sizeLine; decide, fun p hp => ?_⟩
        have hpd : p ≠ L.ad .untold := fun z => by rw [z, upd_same] at hp; cases hp
        rw [upd_ne hpd] at hp
        obtain ⟨m1, s1, h1⟩ := m0.tell ee hp (vs := [.str "unhandled", kV ky]) (ds := [.str "unhandled", keyD ky]) (.cons (.str _) (.cons (key_dt ky) .nil))
        rw [ea] at m1 s1 h1
        refine ⟨L.ad .events, evs, _, rfl, rfl, ?_, by rw [de.len, sizeLine_eq]; have := m0.ar.bd; omega, ⟨q0, q1, by rw [List.length_set]; exact g2⟩, _, _, ?_, ?_, ?_, ?_, s0'.trans s1⟩
        · rw [upd_com hpd.symm, upd_ne nE]
          exact h1
        · rw [upd_com hpd.symm, upd_com nE.symm]
        · rw [upd_ne nE.symm, upd_ne hpd.symm]
          exact hu0
        · exact ea
        · rw [take_snoc hk2, tellAllM_snoc]
          exact m1
      · rintro σ' Hl ⟨⟨g0, g1, g2⟩, H0, L', rfl, hu0, ea, m0, s0'⟩
        refine ⟨upd_same, ?_⟩
        have e : L2.upd (L2.upd H0 (L.ad .untold) (.frz od (.dK (kvD vT M.untold)))) (L.ad .untold) (.dK (kvD vT M.untold)) = H0 := by
          funext x
          by_cases h : x = L.ad .untold
          · rw [h, upd_same, hu0]
          · rw [upd_ne h, upd_ne h]
        rw [e]
        rw [len_mk, show M.untold.length = (M.untold.map (·.1)).length by rw [List.length_map], List.take_length] at m0
        exact hN _ _ ⟨⟨g0, g1⟩, L', m0, s0'⟩
    · obtain ⟨⟨h0, h1⟩, L', m', s'⟩ := hm
      rw [← s'.bk] at h1
      intro p hp
      have eB : (L2.upd H' p (.dK [])) (L'.ad .bk) = some (.ins c.bk L'.bdx (bkF L')) := by rw [upd_ne (ne_of_none m'.atB hp)]; exact m'.atB
      refine ⟨_, h1, L'.ad .bk, c.bk, L'.bdx, _, rfl, eB, X.bk.c, X.bk.n _ (by decide), (show 11 < 1000 by decide), ?_⟩
      have m2 := m'.untoldN X hp
      have s2 : Stp H' L' _ _ := ((Stp.refl H' L').new (t := .untold) (o := .dK []) hp (by decide) (by decide)).put (t := .bk) (o := .ins c.bk L'.bdx (putF "untold" (.ref p) (bkF L'))) (m'.cr.new hp nf_d) (.inr (m'.ar.fx .bk rfl))
      have e : ({ tellAllM M (M.untold.map (·.1)) with untold := [] } : Mach) = untoldM M := rfl
      exact k _ _ m2 (s'.trans s2)
end
end My

set_option Elab.async false
set_option linter.all false
set_option maxRecDepth 100000
set_option maxHeartbeats 4000000
namespace My
open PySem L2 PyProof.Rows
/-! ### behind a task, without micros and runs -/
def restM (M : Mach) : Mach := { untoldM M with done := 0, flooded := false }
def downD : Mach → Mach → Prop := fun M M' => M.micros = [] ∧ M.opened = [] ∧ M.ticks + M.untold.length < 1000000 ∧ M' = restM M
theorem untoldM_none {M : Mach} (h : M.untold = []) : untoldM M = M := by
  have e : untoldM M = { M with untold := [] } := by unfold untoldM; rw [h]; rfl
  rw [e, ← h]
theorem tellAllM_mic : ∀ (ks : List Key) (M : Mach), (tellAllM M ks).micros = M.micros
  | [], _ => rfl
  | k :: r, M => tellAllM_mic r (tellM M [.str "unhandled", keyD k])
theorem tellAllM_opn : ∀ (ks : List Key) (M : Mach), (tellAllM M ks).opened = M.opened
  | [], _ => rfl
  | k :: r, M => tellAllM_opn r (tellM M [.str "unhandled", keyD k])
theorem hp_of {t : TS} {D : Ends} {σ : L2.St} {H1 H2 : Hp} (e : H1 = H2) (h : t D σ H2) : t D σ H1 := by rw [e]; exact h
theorem fldl_of {ta tv : TE} {f : Str} {D : Ends} {σ : L2.St} {H : Hp} {K : PySem.W.Frag} (h : tv σ H fun y H1 => ta σ H1 fun x H2 => ∃ a C dx fs, x = .ref a ∧ H2 a = some (.ins C dx fs) ∧ Cls K C ∧ NoAttr K C f ∧ fs.length < 1000 ∧ D.nx σ (L2.upd H2 a (.ins C dx (putF f y fs)))) : sFld K ta tv f D σ H := h
def spNo : Sp := fun _ _ _ _ => False
section
variable {P : Program} {w : World} {K : PySem.W.Frag} {mg : Str → Option Value} {pB : Heap} {c : CC}
theorem ok_no {k : Nat} {f : Addr} {fd : FuncData} {ps : List Str} : FnOk P w K mg pB CX0 k f fd ps spNo := ⟨fun _ _ _ _ h => h.elim, fun _ _ _ _ _ _ _ _ _ _ _ _ _ h => h.elim⟩
theorem scDown : FnScope ["state", "ending"] ["state"] (d_settle_down).scope := ⟨rfl, rfl, rfl, by decide +kernel, rfl, by decide +kernel, by decide +kernel⟩
theorem ok_down {f fT fE : Addr} {fd dT dE : FuncData} {spE : Sp} {kE : Nat} (F : FnDd K d_settle_down f fd) (X : MC K c) (GT : FnOk P w K mg pB CX0 2 fT dT ["state"] (spTU K c)) (CT : Cal K mg "tell_unhandled" fT dT ["state"])
    (GE : FnOk P w K mg pB CX0 kE fE dE ["state"] spE) (CE : Cal K mg "end_run" fE dE ["state"]) (hE : kE ≤ 2) (mLen : mg "len" = none) : FnOk P w K mg pB CX0 3 f fd ["state"] (spDown K c downD) := by
  refine F.ok scDown (fun vs H Q E h => ?_) (fun cdv A outer s0 H vs Q E hr h => ?_)
  · obtain ⟨L, M, M', rfl, _⟩ := h
    rfl
  · obtain ⟨L, M, M', rfl, m, ⟨hmi, hop, htk, rfl⟩, k⟩ := h
    have nd := scDown.nd
    have N : ∀ f ∈ fState, NoAttr K c.st f := X.st.n
    refine ⟨_, PSs.nox <| pss_cons (ps_set (i := 1) nd rfl (Or.inl rfl) pe_bl)
      (pss_cons (ps_while PassesOwn.never (pt_val (pv 1))
        (pss_cons (ps_if (pt_truth (pe_fld (pv 0) (by rfl)) (by intro _; rfl)) (pss_one ps_never) pss_nil)
        (pss_cons (ps_if (PW.pt (pw_and (pt_truth (pe_fld (pe_fld (pv 0) (by rfl)) (by rfl)) (by intro _; rfl)) (pw_and1 (pt_not (pt_truth (pe_fld (pv 0) (by rfl)) (by intro _; rfl)))))) (pss_one (ps_expr (pe_call GT (hr.mono (by decide)) (by rfl) CT.m CT.k CT.b .nil pass0 (pa_cons (pv 0) pa_nil)))) pss_nil)
        (pss_one (ps_set (i := 1) nd rfl (Or.inl rfl) (pe_and (pe_cmpR op_gt (pe_callB call_len_seq (by rfl) mLen PySem.boot_len (pa_cons (pe_fld (pv 0) (by rfl)) pa_nil)) pe_int (nomark _)) (pe_one (pe_call GE (hr.mono hE) (by rfl) CE.m CE.k CE.b .nil pass0 (pa_cons (pv 0) pa_nil)))))))))
      (pss_cons (ps_fld (pv 0) pe_int (by rfl)) (pss_one (ps_fld (pv 0) pe_bl (by rfl))))), ?_⟩
    refine asg_n ?_
    refine gmid_of (fun σ' H' => σ'[0]? = some (some (.ref (L.ad .st))) ∧ ∃ L', MR K c H' L' (untoldM M) ∧ Stp H L H' L') (fun N1 hN => ?_) (fun σ' H' hm => ?_)
    · refine gwhile (m0 := 1) (fun i σ' H' => σ'[0]? = some (some (.ref (L.ad .st))) ∧ σ'.length = 2 ∧ σ'[1]? = some (some (.bl (decide (i = 1)))) ∧ i ≤ 1 ∧ ∃ L', MR K c H' L' (if i = 1 then M else untoldM M) ∧ Stp H L H' L')
        (fun i σ' H' b H1 => H1 = H' ∧ b = decide (i = 1)) ⟨rfl, rfl, rfl, Nat.le_refl _, L, m, Stp.refl H L⟩ ?_ ?_ ?_
      · rintro i σ' H' ⟨g0, g2, g1, hi, L', m', s'⟩ C hC
        exact ⟨_, g1, _, rfl, hC _ _ ⟨rfl, rfl⟩⟩
      · rintro i σ' H' H1 ⟨g0, g2, g1, hi, L', m', s'⟩ ⟨rfl, hb⟩
        obtain rfl : i = 1 := of_decide_eq_true hb.symm
        have m' : MR K c H1 L' M := m'
        rw [← s'.st] at g0
        obtain ⟨vm, em, im, _⟩ := m'.atMi
        rw [hmi] at im
        refine ⟨_, g0, L'.ad .st, c.st, L'.dx, _, .ref (L'.ad .micros), rfl, m'.atS, X.st.c, N _ (by decide), rfl, _, .inl ⟨_, SqL.of em, rfl⟩, ?_⟩
        rw [im]
        refine iteB0 rfl (nxt_of ?_)
        refine gmid_of (fun σ' H' => σ'[0]? = some (some (.ref (L.ad .st))) ∧ σ'.length = 2 ∧ ∃ L', MR K c H' L' (untoldM M) ∧ Stp H L H' L') (fun N2 hN2 => ?_) ?_
        · have hu := m'.atL rfl m'.ar.untold
          refine ⟨_, g0, L'.ad .st, c.st, L'.dx, _, .ref (L'.ad .bk), rfl, m'.atS, X.st.c, N _ (by decide), rfl, L'.ad .bk, c.bk, L'.bdx, _, .ref (L'.ad .untold), rfl, m'.atB, X.bk.c, X.bk.n _ (by decide), rfl, _, .inr (.inr ⟨_, hu, rfl⟩), ?_⟩
          cases hun : M.untold with
          | nil =>
            refine iteB0 rfl ?_
            refine iteF (hN2 _ _ ⟨by rw [g0, s'.st], g2, L', by rw [untoldM_none hun]; exact m', s'⟩)
          | cons ky r =>
            refine iteB1 rfl ?_
            refine ⟨_, g0, L'.ad .st, c.st, L'.dx, _, .ref (L'.ad .micros), rfl, m'.atS, X.st.c, N _ (by decide), rfl, _, .inl ⟨_, SqL.of em, rfl⟩, ?_⟩
            rw [im]
            refine iteT ?_
            exact ⟨_, g0, L', M, rfl, m', htk, fun H2 L2 m2 s2 => hN2 _ _ ⟨by rw [g0, s'.st], g2, L2, m2, s'.trans s2⟩⟩
        · rintro σ2 H2 ⟨g0, g2, L2, m2, s2⟩
          rw [← s2.st] at g0
          obtain ⟨vo, eo, io, lo⟩ := m2.atOp
          have ho2 : (untoldM M).opened = [] := by show (tellAllM M _).opened = []; rw [tellAllM_opn]; exact hop
          rw [ho2] at lo
          refine asg_1 ⟨_, g0, L2.ad .st, c.st, L2.dx, _, .ref (L2.ad .opened), rfl, m2.atS, X.st.c, N _ (by decide), rfl, L2.ad .opened, _, rfl, .inl (SqL.of eo), _, _, rfl, rfl, _, rfl, ?_⟩
          rw [lo]
          refine iteF ?_
          exact ⟨0, Nat.zero_lt_one, by rw [List.getElem?_set_ne (by decide), g0, s2.st], by rw [List.length_set]; exact g2, List.getElem?_set_self (by rw [g2]; decide), Nat.zero_le _, L2, m2, s2⟩
      · rintro i σ' H' H1 ⟨g0, g2, g1, hi, L', m', s'⟩ ⟨rfl, hb⟩
        have hne : i ≠ 1 := of_decide_eq_false hb.symm
        rw [if_neg hne] at m'
        exact hN _ _ ⟨g0, L', m', s'⟩
    · obtain ⟨g0, L', m', s'⟩ := hm
      rw [← s'.st] at g0
      refine fld_of ⟨_, g0, L'.ad .st, c.st, L'.dx, _, rfl, m'.atS, X.st.c, N _ (by decide), (show 18 < 1000 by decide), ?_⟩
      have m2 := m'.stS X.cn (untoldM M).picks (untoldM M).numbers 0 (untoldM M).clock (untoldM M).flooded (untoldM M).busy
      have s2 := s'.put m'.cr (m'.ar.fx .st rfl) (o := .ins c.st L'.dx (stF L' { untoldM M with done := 0 }))
      refine hp_of (show _ = L2.upd H' (L'.ad .st) (.ins c.st L'.dx (stF L' { untoldM M with done := 0 })) from by rw [← put_done L' (untoldM M) 0]; rfl) ?_
      obtain ⟨Lb, m2, s2, hst, hdx⟩ : ∃ Lb, MR K c (L2.upd H' (L'.ad .st) (.ins c.st L'.dx (stF L' { untoldM M with done := 0 }))) Lb { untoldM M with done := 0 } ∧ Stp H L (L2.upd H' (L'.ad .st) (.ins c.st L'.dx (stF L' { untoldM M with done := 0 }))) Lb ∧ Lb.ad .st = L'.ad .st ∧ Lb.dx = L'.dx := ⟨_, m2, s2, rfl, rfl⟩
      generalize L2.upd H' (L'.ad .st) (.ins c.st L'.dx (stF L' { untoldM M with done := 0 })) = H2 at m2 s2 ⊢
      rw [← hst] at g0
      have m3 := m2.stS X.cn (untoldM M).picks (untoldM M).numbers 0 (untoldM M).clock false (untoldM M).busy
      have s3 := s2.put m2.cr (m2.ar.fx .st rfl) (o := .ins c.st Lb.dx (stF Lb (restM M)))
      refine fldl_of ⟨_, g0, Lb.ad .st, c.st, Lb.dx, _, rfl, m2.atS, X.st.c, N _ (by decide), (show 18 < 1000 by decide), ?_⟩
      rw [put_flooded]
      exact k _ _ m3 s3
end
end My

set_option Elab.async false
set_option linter.all false
set_option maxRecDepth 100000
set_option maxHeartbeats 4000000
namespace My
open PySem L2 PyProof.Rows
/-! ### who waits for a promise that is not settled -/
def putTk (l : List (Key × List Tk)) (k : Key) (t : Tk) : List (Key × List Tk) := pt l k ((lk l k).getD [] ++ [t])
def putTM (M : Mach) (n : Nat) (t : Tk) : Mach := { M with takers := putTk M.takers (.inl (n : Int)) t, ticks := M.ticks + 1 }
theorem ob_put {L : Ly} {t x : Tag} {o : HO} (h : x ≠ t) : (L.put t o).ob x = L.ob x := if_neg h
theorem ob_same {L : Ly} {t : Tag} {p : Addr} {o : HO} : (L.new t p o).ob t = o := if_pos rfl
theorem vL_new {L : Ly} {k : Key} {p : Addr} {o : HO} : ∀ {l : List (Key × List Tk)}, lk l k = none → kvD (vL (L.new (.tl k) p o)) l = kvD (vL L) l
  | [], _ => rfl
  | q :: r, h => by
    rw [lk_cons] at h
    by_cases hq : q.1 = k
    · rw [if_pos hq] at h; cases h
    · rw [if_neg hq] at h
      have ih := vL_new (L := L) (p := p) (o := o) h
      unfold kvD at ih ⊢
      rw [List.map_cons, List.map_cons, ih]
      congr 1
      show (q.1, V.ref ((L.new (.tl k) p o).ad (.tl q.1))) = _
      rw [ad_new (fun z => hq (Tag.tl.inj z))]
      rfl
section
variable {P : Program} {w : World} {K : PySem.W.Frag} {mg : Str → Option Value} {pB : Heap} {c : CC}
theorem MR.takersN {H : Hp} {L : Ly} {M : Mach} {p : Addr} {k : Key} {v : V} {t : Tk} (m : MR K c H L M) (hp : H p = none) (hk : lk M.takers k = none) (ht : RTk K c H v t) (hb : M.ticks + 1 < 16000000) :
    MR K c (L2.upd (L2.upd H p (.lst [v])) (L.ad .takers) (.dK (kvD (vL (L.new (.tl k) p (.lst [v]))) (pt M.takers k [t])))) ((L.new (.tl k) p (.lst [v])).put .takers (.dK (kvD (vL (L.new (.tl k) p (.lst [v]))) (pt M.takers k [t])))) { M with takers := pt M.takers k [t], ticks := M.ticks + 1 } := by
  have h1 := m.cr.new (t := .tl k) (o := .lst [v]) hp nf_l
  have eb : (L.new (.tl k) p (.lst [v])).ad .takers = L.ad .takers := ad_new (by intro z; cases z)
  have h2 := h1.put (t := .takers) (o := .dK (kvD (vL (L.new (.tl k) p (.lst [v]))) (pt M.takers k [t]))) (.inr (m.ar.fx .takers rfl)) nf_d
  rw [eb] at h2
  have kp : Kept c H (L2.upd (L2.upd H p (.lst [v])) (L.ad .takers) (.dK (kvD (vL (L.new (.tl k) p (.lst [v]))) (pt M.takers k [t])))) := by
    refine (Kept.of (c := c) (Same.new (o := .lst [v]) (Same.refl H) hp)).trans (Kept.refl.upd (o := .dK (kvD (vL L) M.takers)) ?_ nf_d)
    have e := m.atL rfl m.ar.takers
    rw [upd_ne (ne_of_none e hp)]
    exact e
  have a := (m.ar.kept kp).tick 1
  refine ⟨h2, { a with
    fx := fun x hx => .inr (a.fx x hx)
    st := a.st
    bk := a.bk
    lines := fun i ws e => by obtain ⟨l, r⟩ := a.lines i ws e; exact ⟨.inr l, r⟩
    plans := fun q hq => by obtain ⟨l, r⟩ := a.plans q hq; exact ⟨.inr l, r⟩
    takers := rfl
    tls := fun j ts e => by
      have e2 : lk (pt M.takers k [t]) j = some ts := e
      rw [lk_pt] at e2
      by_cases q : j = k
      · rw [if_pos q] at e2
        cases e2
        subst q
        refine ⟨.inl rfl, [v], ?_, Paired.cons (RTk.kept (t := t) kp ht) .nil, (show 1 ≤ M.ticks + 1 by omega)⟩
        exact (ob_put (fun z => by cases z)).trans ob_same
      · rw [if_neg q] at e2
        obtain ⟨l, vs, e3, p3, l3⟩ := a.tls j ts e2
        refine ⟨.inr l, vs, ?_, p3, l3⟩
        exact (ob_put (fun z => by cases z)).trans ((ob_new (fun z => q (Tag.tl.inj z))).trans e3)
    bd2 := by have := a.bd2; have := len_pt M.takers k [t]; have := m.ar.bd2; simp only; omega }⟩
abbrev nPut : List Str := ["state", "book", "number", "taker", "fate"]
theorem scPutT : FnScope nPut ["state", "book", "number", "taker"] (d_put_taker).scope := ⟨rfl, rfl, rfl, by decide +kernel, rfl, by decide +kernel, by decide +kernel⟩
def spPutT (K : PySem.W.Frag) (c : CC) : Sp := fun vs H Q _ => ∃ (L : Ly) (M : Mach) (n : Nat) (g : Fate) (t : Tk) (vt : V), vs = [.ref (L.ad .st), .ref (L.ad .bk), .int (n : Int), vt] ∧ MR K c H L M ∧ M.fates[n]? = some g ∧ g.settled = false ∧ RTk K c H vt t ∧ M.ticks < 1000000 ∧
  ∀ H' L', MR K c H' L' (putTM M n t) → Stp H L H' L' → Q .non H'
theorem in_settled (g : Fate) : inV (V.str g.word) [.str "kept", .str "broken"] = g.settled := by
  have h1 : inV (V.str "open") [.str "kept", .str "broken"] = false := by decide +kernel
  have h2 : inV (V.str "kept") [.str "kept", .str "broken"] = true := by decide +kernel
  have h3 : inV (V.str "broken") [.str "kept", .str "broken"] = true := by decide +kernel
  have h4 : inV (V.str "follows") [.str "kept", .str "broken"] = false := by decide +kernel
  cases g with
  | opn => exact h1
  | kept _ => exact h2
  | brk _ => exact h3
  | follows _ => exact h4
theorem ok_putT {f sA : Addr} {fd : FuncData} (F : FnDd K d_put_taker f fd) (X : MC K c) (mS : mg "SETTLED" = some (.ref sA)) (kS : CTup K sA [.str "kept", .str "broken"]) : FnOk P w K mg pB CX0 1 f fd ["state", "book", "number", "taker"] (spPutT K c) := by
  refine F.ok scPutT (fun vs H Q E h => ?_) (fun cdv A outer s0 H vs Q E hr h => ?_)
  · obtain ⟨L, M, n, g, t, vt, rfl, _⟩ := h
    rfl
  · obtain ⟨L, M, n, g, t, vt, rfl, m, hg, hs, ht, htk, k⟩ := h
    have nd := scPutT.nd
    have pO : ∀ {X : Cx} {p : Pos}, Gl X "SETTLED" → X.mg "SETTLED" = some (.ref sA) → PE X (.Name "SETTLED" p) (tC (.ref sA)) := fun hg hm => pe_glob hg hm (show RelV (.ref sA) _ from rfl)
    refine ⟨_, pss_cons (ps_set (i := 4) nd rfl (Or.inl rfl) (pe_ix ix_list (pe_fld (pv 1) (by rfl)) (pv 2) (fun _ _ => rfl)))
      (pss_one (ps_if (pt_cmpR op_in_seq (pe_ix ix_tup (pv 4) pe_int (fun _ _ => rfl)) (pO (by rfl) mS) (by rfl)) (pss_one ps_never)
        (pss_one (ps_if (pt_cmp (pc_din (hu_of hr) (pv 2) (pe_fld (pv 1) (by rfl))))
          (pss_one (ps_expr (pe_bm PySem.F.plainAttrs_list PySem.F.slot_list_append PySem.F.type_list_append mt_append (pe_dget (hu_of hr) (pe_fld (pv 1) (by rfl)) (pv 2) (fun _ _ => rfl)) (pa_cons (pv 3) pa_nil))))
          (pss_one (ps_dput (hu_of hr) (pe_fld (pv 1) (by rfl)) (pv 2) (pe_lst (pa_cons (pv 3) pa_nil)) (by rfl))))))), ?_⟩
    obtain ⟨fs, ef, df⟩ := m.ar.fates
    have hfa := m.atL rfl ef
    have b2 := m.ar.bd2
    obtain ⟨v, hv, dv⟩ := df.at (i := n) (d := g.d) (by rw [List.getElem?_map, hg]; rfl)
    obtain ⟨a, xs, rfl, st, hw⟩ := Fate.dI dv
    refine asg_n ⟨_, rfl, L.ad .bk, c.bk, L.bdx, _, .ref (L.ad .fates), rfl, m.atB, X.bk.c, X.bk.n _ (by decide), rfl, _, rfl, _, _, _, _, rfl, rfl, SqL.of hfa, atI_nat hv, ?_⟩
    refine ⟨_, rfl, _, _, _, _, rfl, rfl, st, atI_nat (j := 0) hw, sA, _, rfl, .inr (kS.at H), rfl, rfl, _, rfl, ?_⟩
    rw [if_neg (by decide), in_settled, hs]
    refine iteF ?_
    have hta := m.atL rfl m.ar.takers
    have gt := DGet.k (k := .inl (n : Int)) hta
    rw [val_mk] at gt
    refine ⟨_, rfl, _, rfl, L.ad .bk, c.bk, L.bdx, _, .ref (L.ad .takers), rfl, m.atB, X.bk.c, X.bk.n _ (by decide), rfl, L.ad .takers, _, rfl, gt, _, rfl, ?_⟩
    cases hq : lk M.takers (.inl (n : Int)) with
    | some ts =>
      refine iteT ?_
      obtain ⟨lv, vs, ev, pv', ll⟩ := m.ar.tls (.inl (n : Int)) ts hq
      have hvs : H (L.ad (.tl (.inl (n : Int)))) = some (.lst vs) := by rw [m.cr.at_ _ lv, ev]
      have gt2 : DGet H (L.ad .takers) (.int (n : Int)) (some (.ref (L.ad (.tl (.inl (n : Int)))))) := by
        rw [hq] at gt
        exact gt
      refine ⟨_, rfl, L.ad .bk, c.bk, L.bdx, _, .ref (L.ad .takers), rfl, m.atB, X.bk.c, X.bk.n _ (by decide), rfl, _, rfl, L.ad .takers, _, rfl, gt2, .inl ⟨rfl, _, SqL.of hvs⟩, _, rfl, _, _, _, rfl, rfl, hvs, by rw [Paired.length pv', sizeLine_eq]; omega, ?_⟩
      have m2 := m.tlS 1 (.inl (n : Int)) (vs ++ [vt]) ts (ts ++ [t]) hq (Paired.snoc ht pv') (by rw [List.length_append]; show _ + 1 ≤ _; omega)
      have s2 := (Stp.refl H L).put m.cr lv (o := .lst (vs ++ [vt]))
      have e : ({ M with takers := pt M.takers (.inl (n : Int)) (ts ++ [t]), ticks := M.ticks + 1 } : Mach) = putTM M n t := by unfold putTM putTk; rw [hq]; rfl
      rw [e] at m2
      exact k _ _ m2 s2
    | none =>
      refine iteF ?_
      refine ⟨_, rfl, by show 1 ≤ sizeLine; decide, fun p hp => ?_⟩
      have s1 := Same.new (o := .lst [vt]) (Same.refl H) hp
      have eT : (L2.upd H p (.lst [vt])) (L.ad .takers) = some (.dK (kvD (vL L) M.takers)) := s1 _ _ hta
      refine ⟨_, rfl, L.ad .bk, c.bk, L.bdx, _, .ref (L.ad .takers), rfl, s1 _ _ m.atB, X.bk.c, X.bk.n _ (by decide), rfl, _, rfl, L.ad .takers, _, rfl, DPut.k (k := .inl (n : Int)) eT (by rw [len_mk, sizeLine_eq]; omega), ?_⟩
      have e1 : putK (kvD (vL L) M.takers) (.inl (n : Int)) (.ref p) = kvD (vL (L.new (.tl (.inl (n : Int))) p (.lst [vt]))) (pt M.takers (.inl (n : Int)) [t]) := by
        rw [← vL_new (p := p) (o := .lst [vt]) hq, ← put_mk]
        congr 1
        show V.ref p = V.ref (if Tag.tl (.inl (n : Int)) = Tag.tl (.inl (n : Int)) then p else _)
        rw [if_pos rfl]
      rw [e1]
      have m2 := m.takersN (k := .inl (n : Int)) hp hq ht (by omega)
      have s2 : Stp H L _ _ := ((Stp.refl H L).new (t := .tl (.inl (n : Int))) (o := .lst [vt]) hp (by intro z; cases z) (by intro z; cases z)).put (t := .takers) (o := .dK (kvD (vL (L.new (.tl (.inl (n : Int))) p (.lst [vt]))) (pt M.takers (.inl (n : Int)) [t]))) (m.cr.new hp nf_l) (.inr (m.ar.fx .takers rfl))
      have e : ({ M with takers := pt M.takers (.inl (n : Int)) [t], ticks := M.ticks + 1 } : Mach) = putTM M n t := by unfold putTM putTk; rw [hq]; rfl
      rw [e] at m2
      exact k _ _ m2 s2
end
end My

set_option Elab.async false
set_option linter.all false
set_option maxRecDepth 100000
set_option maxHeartbeats 4000000
namespace My
open PySem L2 PyProof.Rows
/-! ### a promise follows another one -/
def setRow (M : Mach) (n o : Nat) : Mach := putTM { M with fates := M.fates.set n (.follows o), gathers := dp M.gathers (.inl (n : Int)), ahead := pt M.ahead (.inl (n : Int)) o, ticks := M.ticks + 1 } o (.follow n)
inductive Follow (R : Tk → Prop) (M : Mach) (n o : Nat) : Mach → Prop
  | shut {g : Fate} {M' : Mach} : M.fates[n]? = some g → g.word ≠ "open" → SeqAt.shaped g.d = true → Settle R M n (.brk (.str "ring")) M' → Follow R M n o M'
  | ring {row : List Nat} {M' : Mach} : M.fates[n]? = some .opn → EndRow M o row n → M.ticks + row.length < 1000000 → Settle R (aheadM M row n) n (.brk (.str "ring")) M' → Follow R M n o M'
  | row {row : List Nat} {e : Nat} {g : Fate} : M.fates[n]? = some .opn → EndRow M o row e → e ≠ n → M.fates[o]? = some g → g.settled = false → M.ticks + row.length + 5 < 1000000 → Follow R M n o (setRow (takeM (aheadM M row e) o g) n o)
theorem lateM_fates (M : Mach) (n : Nat) (f : Fate) : (lateM M n f).fates = M.fates ∧ (lateM M n f).ticks ≤ M.ticks + 1 ∧ M.ticks ≤ (lateM M n f).ticks := by
  unfold lateM tellM
  split
  · exact ⟨rfl, Nat.le_refl _, Nat.le_add_right _ _⟩
  · exact ⟨rfl, Nat.le_add_right _ _, Nat.le_refl _⟩
theorem takeM_fates (M : Mach) (n : Nat) (f : Fate) : (takeM M n f).fates = M.fates ∧ (takeM M n f).ticks ≤ M.ticks + 2 := by
  obtain ⟨h1, h2, h3⟩ := lateM_fates M n f
  unfold takeM
  split
  · exact ⟨rfl, Nat.le_add_right _ _⟩
  · exact ⟨h1, by show (lateM M n f).ticks + 1 ≤ _; omega⟩
abbrev nFol : List Str := ["state", "number", "other", "book"]
theorem scFol : FnScope nFol ["state", "number", "other"] (d_follow).scope := ⟨rfl, rfl, rfl, by decide +kernel, rfl, by decide +kernel, by decide +kernel⟩
def spFol (K : PySem.W.Frag) (c : CC) (R : Tk → Prop) : Sp := fun vs H Q _ => ∃ (L : Ly) (M M' : Mach) (n o : Nat), vs = [.ref (L.ad .st), .int (n : Int), .int (o : Int)] ∧ MR K c H L M ∧ Follow R M n o M' ∧ M'.ticks < 1000000 ∧
  ∀ H' L', MR K c H' L' M' → Stp H L H' L' → Q .non H'
section
variable {P : Program} {w : World} {K : PySem.W.Frag} {mg : Str → Option Value} {pB : Heap} {c : CC}
theorem ok_fol {R : Tk → Prop} {fa oA sA fO fE fS fT fP : Addr} {fd dO dE dS dT dP : FuncData} (F : FnDd K d_follow fa fd) (X : MC K c) (mO : mg "OPEN" = some (.ref oA)) (kO : CTup K oA [.str "open"]) (mS : mg "SETTLED" = some (.ref sA)) (kS : CTup K sA [.str "kept", .str "broken"])
    (GO : FnOk P w K mg pB CX0 1 fO dO ["state"] (spOwn K c)) (CO : Cal K mg "own_book" fO dO ["state"])
    (GE : FnOk P w K mg pB CX0 1 fE dE ["book", "number"] (spEnd K c)) (CE : Cal K mg "end_of_row" fE dE ["book", "number"])
    (GS : FnOk P w K mg pB CX0 4 fS dS ["state", "number", "fate"] (spSet K c R)) (CS : Cal K mg "settle" fS dS ["state", "number", "fate"])
    (GT : FnOk P w K mg pB CX0 1 fT dT ["state", "book", "number"] (spTake K c)) (CT : Cal K mg "take" fT dT ["state", "book", "number"])
    (GP : FnOk P w K mg pB CX0 4 fP dP ["state", "book", "number", "taker"] (spPutT K c)) (CP : Cal K mg "put_taker" fP dP ["state", "book", "number", "taker"]) : FnOk P w K mg pB CX0 5 fa fd ["state", "number", "other"] (spFol K c R) := by
  refine F.ok scFol (fun vs H Q E h => ?_) (fun cdv A outer s0 H vs Q E hr h => ?_)
  · obtain ⟨L, M, M', n, o, rfl, _⟩ := h
    rfl
  · obtain ⟨L, M, M', n, o, rfl, m, hfol, ht, k⟩ := h
    have nd := scFol.nd
    have hr1 : Room 1 _ := hr.mono (show 1 ≤ 4 by decide)
    have pO : ∀ {X : Cx} {p : Pos}, Gl X "OPEN" → X.mg "OPEN" = some (.ref oA) → PE X (.Name "OPEN" p) (tC (.ref oA)) := fun hg hm => pe_glob hg hm (show RelV (.ref oA) _ from rfl)
    have pS : ∀ {X : Cx} {p : Pos}, Gl X "SETTLED" → X.mg "SETTLED" = some (.ref sA) → PE X (.Name "SETTLED" p) (tC (.ref sA)) := fun hg hm => pe_glob hg hm (show RelV (.ref sA) _ from rfl)
    refine ⟨_, PSs.nox <| pss_cons (ps_set (i := 3) nd rfl (Or.inl rfl) (pe_call GO hr1 (by rfl) CO.m CO.k CO.b .nil pass0 (pa_cons (pv 0) pa_nil)))
      (pss_cons (ps_if (PW.pt (pw_or (pt_cmpR (op_neD hr.units) (pe_ix ix_list (pe_fld (pv 3) (by rfl)) (pv 1) (fun _ _ => rfl)) (pO (by rfl) mO) (nomark _)) (pw_or1 (pt_cmpR op_eq (pe_call GE hr1 (by rfl) CE.m CE.k CE.b .nil pass0 (pa_cons (pv 3) (pa_cons (pv 2) pa_nil))) (pv 1) (nomark _)))))
        (pss_cons (ps_expr (pe_call GS hr (by rfl) CS.m CS.k CS.b .nil pass0 (pa_cons (pv 0) (pa_cons (pv 1) (pa_cons (pe_tup (pa_cons pe_str (pa_cons pe_str pa_nil))) pa_nil))))) (pss_one ps_retN)) pss_nil)
      (pss_cons (ps_expr (pe_call GT hr1 (by rfl) CT.m CT.k CT.b .nil pass0 (pa_cons (pv 0) (pa_cons (pv 3) (pa_cons (pv 2) pa_nil)))))
      (pss_cons (ps_if (pt_cmpR op_in_seq (pe_ix ix_tup (pe_ix ix_list (pe_fld (pv 3) (by rfl)) (pv 2) (fun _ _ => rfl)) pe_int (fun _ _ => rfl)) (pS (by rfl) mS) (by rfl)) pss_never pss_nil)
      (pss_cons (ps_asg (pe_tup (pa_cons pe_str (pa_cons (pv 2) pa_nil))) (pg_sub (pe_fld (pv 3) (by rfl)) (pv 1) set_list))
      (pss_cons (ps_expr (pe_dpop2 (pe_fld (pv 3) (by rfl)) (pv 1) pe_non ⟨rfl, rfl, rfl, rfl⟩))
      (pss_cons (ps_dput (hu_of hr) (pe_fld (pv 3) (by rfl)) (pv 1) (pv 2) (by rfl))
      (pss_one (ps_expr (pe_call GP hr (by rfl) CP.m CP.k CP.b .nil pass0 (pa_cons (pv 0) (pa_cons (pv 3) (pa_cons (pv 2) (pa_cons (pe_tup (pa_cons pe_non (pa_cons pe_str (pa_cons (pv 1) pa_nil)))) pa_nil))))))))))))), ?_⟩
    refine asg_n (call_of ⟨_, rfl, L, M, rfl, m, ?_⟩)
    obtain ⟨fs, ef, df⟩ := m.ar.fates
    have hfa := m.atL rfl ef
    have dO : Dp K H (.ref oA) (.tuple [.str "open"]) := .tup (kO.at H) (.cons (.str _) .nil)
    have rd1 : ∀ {g : Fate} {Q1 : VK}, M.fates[n]? = some g → SeqAt.shaped g.d = true → Q1 (.bl (!decide (g.word = "open"))) H → tOp (rNeD K) (tOp (rIxL K) (tFld K (tVar 3) "fates") (tVar 1)) (tC (.ref oA)) [some (.ref (L.ad .st)), some (.int (n : Int)), some (.int (o : Int)), some (.ref (L.ad .bk))] H Q1 := fun {g Q1} hg hsh hq => by
      obtain ⟨v, hv, dv⟩ := df.at (i := n) (d := g.d) (by rw [List.getElem?_map, hg]; rfl)
      refine ⟨_, rfl, L.ad .bk, c.bk, L.bdx, _, .ref (L.ad .fates), rfl, m.atB, X.bk.c, X.bk.n _ (by decide), rfl, _, rfl, _, _, _, _, rfl, rfl, SqL.of hfa, atI_nat hv, _, _, dv.dp, dO, hsh, sh_open, ?_⟩
      rw [Fate.eqv_open]
      exact hq
    -- the settling, from a heap in which the machine stands
    have stl : ∀ {H1 : Hp} {L1 : Ly} {M1 : Mach} {D : Ends} {b : TS}, MR K c H1 L1 M1 → Stp H L H1 L1 → Settle R M1 n (.brk (.str "ring")) M' → (∀ H' L', MR K c H' L' M' → Stp H L H' L' → b D [some (.ref (L.ad .st)), some (.int (n : Int)), some (.int (o : Int)), some (.ref (L.ad .bk))] H') →
        tSeq (tDrop (tCall (spSet K c R) [] E0 (tCons (tVar 0) (tCons (tVar 1) (tCons (tTup (tCons (tC (.str "broken")) (tCons (tC (.str "ring")) tNil))) tNil))))) b D [some (.ref (L.ad .st)), some (.int (n : Int)), some (.int (o : Int)), some (.ref (L.ad .bk))] H1 := fun {H1 L1 M1 D b} m1 s1 hs kk => by
      refine gdrop_of ⟨_, rfl, _, rfl, by show 2 ≤ sizeLine; decide, fun p hp => ?_⟩
      have sp := Same.new (o := .tup [.str "broken", .str "ring"]) (Same.refl H1) hp
      refine ⟨L1, M1, M', n, .brk (.str "ring"), .ref p, by rw [s1.st]; rfl, m1.same sp, hs, rfl, Dt.new upd_same (.cons (.str _) (.cons (.str _) .nil)), ht, fun H' L' m' s' => kk _ _ m' (s1.trans ((Stp.refl H1 L1).tmp sp |>.trans s'))⟩
    cases hfol with
    | @shut g _ hg hw hsh hset =>
      refine rd1 hg hsh ⟨_, rfl, ?_⟩
      rw [decide_eq_false hw]
      refine iteT (iteT ?_)
      exact stl m (Stp.refl H L) hset fun H' L' m' s' => k H' L' m' s'
    | @ring row _ hg hrow hb hset =>
      refine rd1 hg sh_open ⟨_, rfl, ?_⟩
      refine iteF ?_
      refine ⟨_, rfl, _, rfl, L, M, o, n, row, rfl, m, hrow, hb, fun H1 L1 m1 s1 => ?_⟩
      refine ⟨_, rfl, rfl, _, rfl, ?_⟩
      rw [decide_eq_true rfl]
      refine iteT ?_
      exact stl m1 s1 hset fun H' L' m' s' => k H' L' m' s'
    | @row row e g hg hrow hne ho hgs hb =>
      refine rd1 hg sh_open ⟨_, rfl, ?_⟩
      refine iteF ?_
      refine ⟨_, rfl, _, rfl, L, M, o, e, row, rfl, m, hrow, by omega, fun H1 L1 m1 s1 => ?_⟩
      refine ⟨_, rfl, rfl, _, rfl, ?_⟩
      rw [decide_eq_false (show ¬ V.int (e : Int) = V.int (n : Int) from fun z => hne (by have := V.int.inj z; omega))]
      refine iteF (nxt_of ?_)
      have hta : (aheadM M row e).ticks = M.ticks + row.length := rfl
      refine gdrop_of ⟨_, rfl, _, rfl, _, rfl, L1, aheadM M row e, o, g, by rw [s1.st, s1.bk]; rfl, m1, ho, by omega, fun H2 La m2 s2 => ?_⟩
      have s02 := s1.trans s2
      obtain ⟨hf2, ht2⟩ := takeM_fates (aheadM M row e) o g
      generalize hM2 : takeM (aheadM M row e) o g = M2 at m2 hf2 ht2 k ht
      have hf2 : M2.fates = M.fates := hf2
      clear m1 s1 s2
      obtain ⟨fs2, ef2, df2⟩ := m2.ar.fates
      have hfa2 := m2.atL rfl ef2
      have b1 := m2.ar.bd
      have b2 := m2.ar.bd2
      obtain ⟨vo, hvo, dvo⟩ := df2.at (i := o) (d := g.d) (by rw [hf2, List.getElem?_map, ho]; rfl)
      obtain ⟨ao, xo, rfl, sto, hwo⟩ := Fate.dI dvo
      have q3 : ([some (.ref (L.ad .st)), some (.int (n : Int)), some (.int (o : Int)), some (.ref (L.ad .bk))] : L2.St)[3]? = some (some (.ref (La.ad .bk))) := by rw [s02.bk]; rfl
      refine ⟨_, q3, La.ad .bk, c.bk, La.bdx, _, .ref (La.ad .fates), rfl, m2.atB, X.bk.c, X.bk.n _ (by decide), rfl, _, rfl, _, _, _, _, rfl, rfl, SqL.of hfa2, atI_nat hvo, _, _, _, _, rfl, rfl, sto, atI_nat (j := 0) hwo, sA, _, rfl, .inr (kS.at H2), rfl, rfl, _, rfl, ?_⟩
      rw [if_neg (by decide), in_settled, hgs]
      refine iteF (nxt_of ?_)
      refine gasg ⟨_, rfl, by show 2 ≤ sizeLine; decide, fun p hp => ?_⟩
      have sp := Same.new (o := .tup [.str "follows", .int (o : Int)]) (Same.refl H2) hp
      have m3 := m2.same sp
      have hn2 : n < M2.fates.length := by rw [hf2]; exact (List.getElem?_eq_some_iff.mp hg).1
      have hl2 : fs2.length = M2.fates.length := by rw [df2.len, List.length_map]
      refine ⟨_, q3, La.ad .bk, c.bk, La.bdx, _, .ref (La.ad .fates), rfl, m3.atB, X.bk.c, X.bk.n _ (by decide), rfl, _, rfl, La.ad .fates, _, _, n, rfl, rfl, sp _ _ hfa2, ixN_lt (by rw [hl2]; exact hn2), ?_⟩
      have m4 := m3.fatesS 1 (fs2.set n (.ref p)) (M2.fates.set n (.follows o)) (by rw [List.map_set]; exact DtAll.set (Dt.new upd_same (.cons (.str _) (.cons (.int _) .nil))) n (df2.kept (Kept.of (c := c) sp))) (by rw [List.length_set]; omega)
      have s4 := (s02.tmp sp).put m3.cr (m3.ar.fx .fates rfl) (o := .lst (fs2.set n (.ref p)))
      obtain ⟨gs, eg, dg⟩ := m4.ar.gathers
      have hga := m4.atL rfl eg
      obtain ⟨pg1, pg2⟩ := valV_paired (R := RGa K _) (fun _ _ z => z.1) (k := .inl (n : Int)) dg
      have b4 := m4.ar.bd2
      have aB4 : (La.put .fates (.lst (fs2.set n (.ref p)))).ad = La.ad := rfl
      generalize hM4 : ({ M2 with fates := M2.fates.set n (.follows o), ticks := M2.ticks + 1 } : Mach) = M4 at m4 hga dg pg1 pg2 b4
      generalize hLc : La.put .fates (.lst (fs2.set n (.ref p))) = Lc at m4 s4 eg hga aB4
      have q3c : ([some (.ref (L.ad .st)), some (.int (n : Int)), some (.int (o : Int)), some (.ref (L.ad .bk))] : L2.St)[3]? = some (some (.ref (Lc.ad .bk))) := by rw [s4.bk]; rfl
      show tSeq _ _ _ _ (L2.upd (L2.upd H2 p (.tup [.str "follows", .int (o : Int)])) (La.ad .fates) (.lst (fs2.set n (.ref p))))
      generalize L2.upd (L2.upd H2 p (.tup [.str "follows", .int (o : Int)])) (La.ad .fates) (.lst (fs2.set n (.ref p))) = H4 at m4 s4 hga dg pg1 pg2 ⊢
      refine gmid_of (fun σ' H' => σ' = [some (.ref (L.ad .st)), some (.int (n : Int)), some (.int (o : Int)), some (.ref (L.ad .bk))] ∧ ∃ L', MR K c H' L' { M4 with gathers := dp M4.gathers (.inl (n : Int)) } ∧ Stp H L H' L') (fun N hN => ?_) ?_
      · refine ⟨_, q3c, Lc.ad .bk, c.bk, Lc.bdx, _, .ref (Lc.ad .gathers), rfl, m4.atB, X.bk.c, X.bk.n _ (by decide), rfl, Lc.ad .gathers, rfl, .inl ⟨_, .inl hga⟩, _, rfl, _, .inl (n : Int), hga, rfl, fun v hv => ?_, fun hv => ?_⟩
        · exact hN _ _ ⟨rfl, _, m4.gathersS 0 _ _ pg1 (by have := len_dp M4.gathers (.inl (n : Int)); omega), s4.put m4.cr (m4.ar.fx .gathers rfl)⟩
        · exact hN _ _ ⟨rfl, _, by rw [dp_none (pg2.mp hv)]; exact m4, s4⟩
      · rintro σ5 H5 ⟨rfl, L5, m5, s5⟩
        have q35 : ([some (.ref (L.ad .st)), some (.int (n : Int)), some (.int (o : Int)), some (.ref (L.ad .bk))] : L2.St)[3]? = some (some (.ref (L5.ad .bk))) := by rw [s5.bk]; rfl
        have hah := m5.atL rfl m5.ar.ahead
        have b5 := m5.ar.bd2
        have eM4 : M4.ticks = M2.ticks + 1 := by rw [← hM4]
        have e1 : putK (kvD vI M4.ahead) (.inl (n : Int)) (V.int (o : Int)) = kvD vI (pt M4.ahead (.inl (n : Int)) o) := put_mk vI (.inl (n : Int)) o _
        refine dput_of ⟨_, rfl, _, q35, L5.ad .bk, c.bk, L5.bdx, _, .ref (L5.ad .ahead), rfl, m5.atB, X.bk.c, X.bk.n _ (by decide), rfl, _, rfl, L5.ad .ahead, _, rfl, DPut.k (k := .inl (n : Int)) hah (by rw [len_mk, sizeLine_eq]; show M4.ahead.length < _; have := b5.2.2.2.2.2.2.2; simp only at this; omega), ?_⟩
        show tDrop _ _ _ (L2.upd H5 (L5.ad .ahead) (.dK (putK (kvD vI M4.ahead) (.inl (n : Int)) (V.int (o : Int)))))
        rw [e1]
        have hbA : (pt M4.ahead (.inl (n : Int)) o).length ≤ M4.ticks + 0 := by
          have h1 := len_pt M4.ahead (.inl (n : Int)) o
          have h2 : M4.ahead = M2.ahead := by rw [← hM4]
          rw [eM4]
          rw [h2] at h1 ⊢
          omega
        have m6 := m5.aheadS 0 (pt M4.ahead (.inl (n : Int)) o) hbA
        have s6 := s5.put m5.cr (m5.ar.fx .ahead rfl) (o := .dK (kvD vI (pt M4.ahead (.inl (n : Int)) o)))
        have hno : n ≠ o := by
          rintro rfl
          cases hrow with
          | stop _ _ => exact hne rfl
          | step h1 h2 _ _ => rw [hg] at h1; cases h1; exact absurd h2 (by decide +kernel)
        have hf6 : M4.fates = M.fates.set n (.follows o) := by rw [← hM4, hf2]
        show tDrop _ _ _ (L2.upd H5 (L5.ad .ahead) (.dK (kvD vI (pt M4.ahead (.inl (n : Int)) o))))
        have q0 : L.ad .st = (L5.put .ahead (.dK (kvD vI (pt M4.ahead (.inl (n : Int)) o)))).ad .st := s6.st.symm
        have q1 : L.ad .bk = (L5.put .ahead (.dK (kvD vI (pt M4.ahead (.inl (n : Int)) o)))).ad .bk := s6.bk.symm
        refine ⟨_, rfl, _, rfl, _, rfl, _, rfl, by show 3 ≤ sizeLine; decide, fun q hq => ?_⟩
        have sq := Same.new (o := .tup [.non, .str "follow", .int (n : Int)]) (Same.refl _) hq
        refine ⟨_, _, o, g, .follow n, .ref q, by rw [q0, q1]; rfl, m6.same sq, (by show M4.fates[o]? = some g; rw [hf6, List.getElem?_set_ne hno]; exact ho), hgs, ⟨q, rfl, upd_same⟩, (by show M4.ticks + 0 < 1000000; omega), fun H' L' m' s' => ?_⟩
        refine k H' L' ?_ ((s6.tmp sq).trans s')
        subst hM4
        exact m'
end
end My

set_option Elab.async false
set_option linter.all false
set_option maxRecDepth 100000
set_option maxHeartbeats 4000000
namespace My
open PySem L2 PyProof.Rows
/-! ### deeds on promises -/
def actMake : ActR := fun M _ d M' r => ∃ x : Str, d = .tuple [.str "make", .str x] ∧ M' = makeP M x ∧ r = .none
def actKeep (R : Tk → Prop) : ActR := fun M _ d M' r => ∃ (x : Str) (v : PyData) (n : Nat), d = .tuple [.str "keep", .str x, v] ∧ lk M.named (.inr x) = some n ∧ Settle R M n (.kept v) M' ∧ r = .none
def actBreak (R : Tk → Prop) : ActR := fun M _ d M' r => ∃ (x : Str) (v : PyData) (n : Nat), d = .tuple [.str "break", .str x, v] ∧ lk M.named (.inr x) = some n ∧ Settle R M n (.brk v) M' ∧ r = .none
def actFollow (R : Tk → Prop) : ActR := fun M _ d M' r => ∃ (x y : Str) (n o : Nat), d = .tuple [.str "follow", .str x, .str y] ∧ lk M.named (.inr x) = some n ∧ lk M.named (.inr y) = some o ∧ Follow R M n o M' ∧ r = .none
theorem Settle.ticks {R : Tk → Prop} {M M' : Mach} {n : Nat} {f : Fate} (h : Settle R M n f M') : M.ticks ≤ M'.ticks := by
  cases h with
  | again _ _ _ => exact Nat.le_succ _
  | opn _ h => exact Nat.le_trans (behindM_ticks ..) h.ticks
section
variable {P : Program} {w : World} {K : PySem.W.Frag} {mg : Str → Option Value} {pB : Heap} {c : CC}
theorem scMake : FnScope pDo pDo (d_do_make).scope := ⟨rfl, rfl, rfl, by decide +kernel, rfl, by decide +kernel, by decide +kernel⟩
theorem ok_make {f fO fM : Addr} {fd dO dM : FuncData} (F : FnDd K d_do_make f fd) (X : MC K c) (GO : FnOk P w K mg pB CX0 1 fO dO ["state"] (spOwn K c)) (CO : Cal K mg "own_book" fO dO ["state"])
    (GM : FnOk P w K mg pB CX0 1 fM dM ["book", "name"] (spMkp K c)) (CM : Cal K mg "make_promise" fM dM ["book", "name"]) : FnOk P w K mg pB CX0 2 f fd pDo (spAct K c actMake) := by
  refine F.ok scMake (fun vs H Q E h => ?_) (fun cdv A outer s0 H vs Q E hr h => ?_)
  · obtain ⟨L, M, told, deed, M', r, vt, vd, rfl, _⟩ := h
    rfl
  · obtain ⟨L, M, told, deed, M', r, vt, vd, rfl, m, ht, hd, ⟨x, rfl, rfl, rfl⟩, hb, k⟩ := h
    refine ⟨_, pss_one (ps_expr (pe_call GM hr (by rfl) CM.m CM.k CM.b .nil pass0 (pa_cons (pe_call GO hr (by rfl) CO.m CO.k CO.b .nil pass0 (pa_cons (pv 0) pa_nil)) (pa_cons (pe_ix ix_tup (pv 2) pe_int (fun _ _ => rfl)) pa_nil)))), ?_⟩
    obtain ⟨da, dxs, rfl, sd, hds⟩ := hd.tupI
    cases hds with | cons h1 t =>
    cases h1
    cases t with | cons h2 t =>
    cases t
    cases h2
    refine ⟨_, rfl, L, M, rfl, m, ?_⟩
    refine ⟨_, rfl, _, _, _, _, rfl, rfl, sd, atI_nat (j := 1) rfl, ?_⟩
    exact ⟨L, M, x, rfl, m, (by have : (makeP M x).ticks = M.ticks + 1 := rfl; omega), fun H' L' m' s' => k H' L' .non m' s' .non⟩
abbrev nKp : List Str := ["state", "told", "deed", "word", "name", "worth", "named"]
theorem scKeep : FnScope nKp pDo (d_do_keep).scope := ⟨rfl, rfl, rfl, by decide +kernel, rfl, by decide +kernel, by decide +kernel⟩
theorem ok_keep {R : Tk → Prop} {f fS : Addr} {fd dS : FuncData} (F : FnDd K d_do_keep f fd) (X : MC K c) (GS : FnOk P w K mg pB CX0 4 fS dS ["state", "number", "fate"] (spSet K c R)) (CS : Cal K mg "settle" fS dS ["state", "number", "fate"]) : FnOk P w K mg pB CX0 5 f fd pDo (spAct K c (actKeep R)) := by
  refine F.ok scKeep (fun vs H Q E h => ?_) (fun cdv A outer s0 H vs Q E hr h => ?_)
  · obtain ⟨L, M, told, deed, M', r, vt, vd, rfl, _⟩ := h
    rfl
  · obtain ⟨L, M, told, deed, M', r, vt, vd, rfl, m, ht, hd, ⟨x, v, n, rfl, hn, hset, rfl⟩, hb, k⟩ := h
    have nd := scKeep.nd
    refine ⟨_, pss_cons (ps_asg (pv 2) (pg_tup (by rfl) (pgs_cons (pg_name (i := 3) nd rfl (Or.inl rfl) (Or.inr rfl)) (pgs_cons (pg_name (i := 4) nd rfl (Or.inl rfl) (Or.inr rfl)) (pgs_cons (pg_name (i := 5) nd rfl (Or.inl rfl) (Or.inr rfl)) pgs_nil)))))
      (pss_cons (ps_set (i := 6) nd rfl (Or.inl rfl) (pe_fld (pe_fld (pv 0) (by rfl)) (by rfl)))
      (pss_cons (ps_if (pt_cmp (pc_dnotin (hu_of hr) (pv 4) (pv 6))) (pss_one (ps_ret pe_str)) pss_nil)
      (pss_cons (ps_expr (pe_call GS hr (by rfl) CS.m CS.k CS.b .nil pass0 (pa_cons (pv 0) (pa_cons (pe_dget (hu_of hr) (pv 6) (pv 4) (fun _ _ => rfl)) (pa_cons (pe_tup (pa_cons pe_str (pa_cons (pv 5) pa_nil))) pa_nil)))))
      (pss_one (ps_ret pe_non))))), ?_⟩
    obtain ⟨da, dxs, rfl, sd, hds⟩ := hd.tupI
    cases hds with | cons h1 t =>
    cases h1
    cases t with | cons h2 t =>
    cases h2
    cases t with | @cons vv _ _ _ h3 t =>
    cases t
    refine gasg ⟨_, rfl, da, _, rfl, sd, rfl, _, _, rfl, _, _, rfl, _, _, rfl, rfl, ?_⟩
    refine asg_n ⟨_, rfl, L.ad .st, c.st, L.dx, _, .ref (L.ad .bk), rfl, m.atS, X.st.c, X.st.n _ (by decide), rfl, L.ad .bk, c.bk, L.bdx, _, .ref (L.ad .named), rfl, m.atB, X.bk.c, X.bk.n _ (by decide), rfl, ?_⟩
    have gt := DGet.k (k := .inr x) (m.atL rfl m.ar.named)
    rw [val_mk, hn] at gt
    refine ⟨_, rfl, _, rfl, L.ad .named, _, rfl, gt, _, rfl, iteF (nxt_of ?_)⟩
    refine gdrop_of ⟨_, rfl, _, rfl, _, rfl, L.ad .named, _, rfl, gt, _, rfl, by show 2 ≤ sizeLine; decide, fun p hp => ?_⟩
    have sp := Same.new (o := .tup [.str "kept", vv]) (Same.refl H) hp
    exact ⟨L, M, M', n, .kept v, .ref p, rfl, m.same sp, hset, rfl, Dt.new upd_same (.cons (.str _) (.cons (h3.kept (Kept.of (c := c) sp)) .nil)), hb, fun H' L' m' s' => k H' L' .non m' ((Stp.refl H L).tmp sp |>.trans s') .non⟩
theorem scBreak : FnScope ["state", "told", "deed", "word", "name", "reason", "named"] pDo (d_do_break).scope := ⟨rfl, rfl, rfl, by decide +kernel, rfl, by decide +kernel, by decide +kernel⟩
theorem ok_break {R : Tk → Prop} {f fS : Addr} {fd dS : FuncData} (F : FnDd K d_do_break f fd) (X : MC K c) (GS : FnOk P w K mg pB CX0 4 fS dS ["state", "number", "fate"] (spSet K c R)) (CS : Cal K mg "settle" fS dS ["state", "number", "fate"]) : FnOk P w K mg pB CX0 5 f fd pDo (spAct K c (actBreak R)) := by
  refine F.ok scBreak (fun vs H Q E h => ?_) (fun cdv A outer s0 H vs Q E hr h => ?_)
  · obtain ⟨L, M, told, deed, M', r, vt, vd, rfl, _⟩ := h
    rfl
  · obtain ⟨L, M, told, deed, M', r, vt, vd, rfl, m, ht, hd, ⟨x, v, n, rfl, hn, hset, rfl⟩, hb, k⟩ := h
    have nd := scBreak.nd
    refine ⟨_, pss_cons (ps_asg (pv 2) (pg_tup (by rfl) (pgs_cons (pg_name (i := 3) nd rfl (Or.inl rfl) (Or.inr rfl)) (pgs_cons (pg_name (i := 4) nd rfl (Or.inl rfl) (Or.inr rfl)) (pgs_cons (pg_name (i := 5) nd rfl (Or.inl rfl) (Or.inr rfl)) pgs_nil)))))
      (pss_cons (ps_set (i := 6) nd rfl (Or.inl rfl) (pe_fld (pe_fld (pv 0) (by rfl)) (by rfl)))
      (pss_cons (ps_if (pt_cmp (pc_dnotin (hu_of hr) (pv 4) (pv 6))) (pss_one (ps_ret pe_str)) pss_nil)
      (pss_cons (ps_expr (pe_call GS hr (by rfl) CS.m CS.k CS.b .nil pass0 (pa_cons (pv 0) (pa_cons (pe_dget (hu_of hr) (pv 6) (pv 4) (fun _ _ => rfl)) (pa_cons (pe_tup (pa_cons pe_str (pa_cons (pv 5) pa_nil))) pa_nil)))))
      (pss_one (ps_ret pe_non))))), ?_⟩
    obtain ⟨da, dxs, rfl, sd, hds⟩ := hd.tupI
    cases hds with | cons h1 t =>
    cases h1
    cases t with | cons h2 t =>
    cases h2
    cases t with | @cons vv _ _ _ h3 t =>
    cases t
    refine gasg ⟨_, rfl, da, _, rfl, sd, rfl, _, _, rfl, _, _, rfl, _, _, rfl, rfl, ?_⟩
    refine asg_n ⟨_, rfl, L.ad .st, c.st, L.dx, _, .ref (L.ad .bk), rfl, m.atS, X.st.c, X.st.n _ (by decide), rfl, L.ad .bk, c.bk, L.bdx, _, .ref (L.ad .named), rfl, m.atB, X.bk.c, X.bk.n _ (by decide), rfl, ?_⟩
    have gt := DGet.k (k := .inr x) (m.atL rfl m.ar.named)
    rw [val_mk, hn] at gt
    refine ⟨_, rfl, _, rfl, L.ad .named, _, rfl, gt, _, rfl, iteF (nxt_of ?_)⟩
    refine gdrop_of ⟨_, rfl, _, rfl, _, rfl, L.ad .named, _, rfl, gt, _, rfl, by show 2 ≤ sizeLine; decide, fun p hp => ?_⟩
    have sp := Same.new (o := .tup [.str "broken", vv]) (Same.refl H) hp
    exact ⟨L, M, M', n, .brk v, .ref p, rfl, m.same sp, hset, rfl, Dt.new upd_same (.cons (.str _) (.cons (h3.kept (Kept.of (c := c) sp)) .nil)), hb, fun H' L' m' s' => k H' L' .non m' ((Stp.refl H L).tmp sp |>.trans s') .non⟩
theorem scDoFol : FnScope ["state", "told", "deed", "word", "name", "other", "named"] pDo (d_do_follow).scope := ⟨rfl, rfl, rfl, by decide +kernel, rfl, by decide +kernel, by decide +kernel⟩
theorem ok_dofol {R : Tk → Prop} {f fS : Addr} {fd dS : FuncData} (F : FnDd K d_do_follow f fd) (X : MC K c) (GS : FnOk P w K mg pB CX0 5 fS dS ["state", "number", "other"] (spFol K c R)) (CS : Cal K mg "follow" fS dS ["state", "number", "other"]) : FnOk P w K mg pB CX0 6 f fd pDo (spAct K c (actFollow R)) := by
  refine F.ok scDoFol (fun vs H Q E h => ?_) (fun cdv A outer s0 H vs Q E hr h => ?_)
  · obtain ⟨L, M, told, deed, M', r, vt, vd, rfl, _⟩ := h
    rfl
  · obtain ⟨L, M, told, deed, M', r, vt, vd, rfl, m, ht, hd, ⟨x, y, n, o, rfl, hn, ho, hset, rfl⟩, hb, k⟩ := h
    have nd := scDoFol.nd
    refine ⟨_, pss_cons (ps_asg (pv 2) (pg_tup (by rfl) (pgs_cons (pg_name (i := 3) nd rfl (Or.inl rfl) (Or.inr rfl)) (pgs_cons (pg_name (i := 4) nd rfl (Or.inl rfl) (Or.inr rfl)) (pgs_cons (pg_name (i := 5) nd rfl (Or.inl rfl) (Or.inr rfl)) pgs_nil)))))
      (pss_cons (ps_set (i := 6) nd rfl (Or.inl rfl) (pe_fld (pe_fld (pv 0) (by rfl)) (by rfl)))
      (pss_cons (ps_if (PW.pt (pw_or (pt_cmp (pc_dnotin (hu_of hr) (pv 4) (pv 6))) (pw_or1 (pt_cmp (pc_dnotin (hu_of hr) (pv 5) (pv 6)))))) (pss_one (ps_ret pe_str)) pss_nil)
      (pss_cons (ps_expr (pe_call GS hr (by rfl) CS.m CS.k CS.b .nil pass0 (pa_cons (pv 0) (pa_cons (pe_dget (hu_of hr) (pv 6) (pv 4) (fun _ _ => rfl)) (pa_cons (pe_dget (hu_of hr) (pv 6) (pv 5) (fun _ _ => rfl)) pa_nil)))))
      (pss_one (ps_ret pe_non))))), ?_⟩
    obtain ⟨da, dxs, rfl, sd, hds⟩ := hd.tupI
    cases hds with | cons h1 t =>
    cases h1
    cases t with | cons h2 t =>
    cases h2
    cases t with | cons h3 t =>
    cases h3
    cases t
    refine gasg ⟨_, rfl, da, _, rfl, sd, rfl, _, _, rfl, _, _, rfl, _, _, rfl, rfl, ?_⟩
    refine asg_n ⟨_, rfl, L.ad .st, c.st, L.dx, _, .ref (L.ad .bk), rfl, m.atS, X.st.c, X.st.n _ (by decide), rfl, L.ad .bk, c.bk, L.bdx, _, .ref (L.ad .named), rfl, m.atB, X.bk.c, X.bk.n _ (by decide), rfl, ?_⟩
    have gt := DGet.k (k := .inr x) (m.atL rfl m.ar.named)
    rw [val_mk, hn] at gt
    have gt2 := DGet.k (k := .inr y) (m.atL rfl m.ar.named)
    rw [val_mk, ho] at gt2
    refine ⟨_, rfl, _, rfl, L.ad .named, _, rfl, gt, _, rfl, iteF ⟨_, rfl, _, rfl, L.ad .named, _, rfl, gt2, _, rfl, iteF (nxt_of ?_)⟩⟩
    refine gdrop_of ⟨_, rfl, _, rfl, _, rfl, L.ad .named, _, rfl, gt, _, rfl, _, rfl, L.ad .named, _, rfl, gt2, ?_⟩
    exact ⟨L, M, M', n, o, rfl, m, hset, hb, fun H' L' m' s' => k H' L' .non m' s' .non⟩
/-! ### the table of plain deeds, with these -/
def actP (R : Tk → Prop) : ActR := fun M t d M' r => actMake M t d M' r ∨ actKeep R M t d M' r ∨ actBreak R M t d M' r ∨ actFollow R M t d M' r
end
end My

set_option Elab.async false
set_option linter.all false
set_option maxRecDepth 100000
set_option maxHeartbeats 4000000
namespace L2
open PySem PySem.Spec PyProof.Rows My
/-- o.m(k = v, ..) -/
theorem pe_methK0 {X : Cx} {CX : CXT} {k : Nat} {f C : Addr} {fd : FuncData} {ps ks : List Str} {sp : Sp} {E : XK} {m : Str} {pos apos : Pos} {o : Expr} {kws : List Keyword} {ta : TE} {tk : TA} {g : List Value → List Value → List Value} {gV : List V → List V → List V} {pl : Sem Bool}
    (he : PE X o ta) (c : Cls X.K C) (hm : Meth X.K C m f) (F : FnOk X.prog X.w X.K X.mg X.base CX k f fd ps sp) (hr : Room k X.A) (hb : KBn X.K fd ps 1 ks g gV) (hx : Passes CX X E) (hkw : PK X kws tk)
    (hall : (backToKw pos (keywordEach kws X.env)).all (·.1.isSome) = true := by rfl) (hks : (backToKw pos (keywordEach kws X.env)).filterMap (·.1) = ks := by rfl)
    (hpl : ((backTo pos (starEach [] X.env)).any (·.1) || (backToKw pos (keywordEach kws X.env)).any (·.1.isNone)) = false := by rfl)
    (ht : eval (.Call (.Attribute o m apos) [] kws pos) X.env = (do
      let ov ← eval o X.env
      standAt apos.atName
      let (f, first) ← holding [ov] (getMethod ov m pl)
      callWith pos f first (backTo pos (starEach [] X.env)) (backToKw pos (keywordEach kws X.env))) := by rfl) :
    PE X (.Call (.Attribute o m apos) [] kws pos) (tMethK C m 0 ks.length sp gV E ta tNil tk) := by
  refine ⟨fun pins s σ H Q I h => ?_⟩
  refine PySem.W.methodCall_KW (pl := pl) (thn (he.run pins s σ H _ I h) fun u s1 ⟨x, H1, I1, rx, a, dx, fs, ex, ea, l, q⟩ => ?_) ht
  subst ex
  obtain rfl : u = Value.ref a := rx
  refine getmeth_ok I1 ea c hm l ?_
  refine PySem.W.callWith_KW0 (first := [.ref a]) (h₀ := X.base) I.ok.mod.kin hm.kp hall ?_ hpl
  refine thn (hkw.run pos pins s1 σ H1 _ I1 q) fun ws s3 ⟨zs, H3, I3, rz, l1, l2, q3⟩ => ⟨I3.kIn, ?_⟩
  rw [hks]
  have r1 : Vals [V.ref a] [Value.ref a] := .cons rfl .nil
  refine wpAny_call (codeAny_mono (F.run X.A X.stack s3 H3 ⟨[.ref a], ks.zip ws⟩ (g [.ref a] ws) (gV [.ref a] zs) Q E hr I3.env0 (hb.to s3 _ ws I3.kIn rfl (rz.length.symm.trans l2)) (hb.rel r1 rz) q3) fun r s' hq => ?_)
  cases r with
  | error e => exact hx pins σ H3 s3 e s' I3 hq
  | ok fl =>
    cases fl with
    | ret u => exact I3.after hq
    | next => exact False.elim hq
    | brk => exact False.elim hq
    | cont => exact False.elim hq
/-- what never raises may be called anywhere -/
theorem FnOk.calm {P : Program} {w : World} {K : PySem.W.Frag} {mg : Str → Option Value} {base : Heap} {k : Nat} {f : Addr} {fd : FuncData} {ps : List Str} {sp : Sp} (F : FnOk P w K mg base (L2.CX P w) k f fd ps sp) :
    FnOk P w K mg base CX0 k f fd ps (fun vs H Q _ => sp vs H Q E0) := by
  refine ⟨fun vs H Q E h => F.len vs H Q E0 h, fun A outer s H args us vs Q E hr e0 hb r h => ?_⟩
  refine codeAny_mono (F.run A outer s H args us vs Q E0 hr e0 hb r h) fun r s' hq => ?_
  cases r with
  | ok fl => cases fl <;> exact hq
  | error e =>
    obtain ⟨_, _, _, _, _, _, _, _, _, _, _, _, z⟩ := hq
    exact z.elim
end L2
namespace My
open PySem L2 PyProof.Rows
/-! ### written data -/
mutual
/-- v is the written data d: lists and tuples stand in the heap -/
inductive Lit (H : Hp) : V → PyData → Prop
  | non : Lit H .non .none
  | bl (b : Bool) : Lit H (.bl b) (.bool b)
  | int (i : Int) : Lit H (.int i) (.int i)
  | str (x : Str) : Lit H (.str x) (.str x)
  | lst {a : Addr} {xs : List V} {ds : List PyData} : H a = some (.lst xs) → LitAll H xs ds → Lit H (.ref a) (.list ds)
  | tup {a : Addr} {xs : List V} {ds : List PyData} : H a = some (.tup xs) → LitAll H xs ds → Lit H (.ref a) (.tuple ds)
inductive LitAll (H : Hp) : List V → List PyData → Prop
  | nil : LitAll H [] []
  | cons {v : V} {vs : List V} {d : PyData} {ds : List PyData} : Lit H v d → LitAll H vs ds → LitAll H (v :: vs) (d :: ds)
end
mutual
theorem Lit.keep {H H' : Hp} (kl : ∀ a xs, H a = some (.lst xs) → H' a = some (.lst xs)) (kt : ∀ a xs, H a = some (.tup xs) → H' a = some (.tup xs)) : ∀ {v : V} {d : PyData}, Lit H v d → Lit H' v d
  | _, _, .non => .non
  | _, _, .bl b => .bl b
  | _, _, .int i => .int i
  | _, _, .str x => .str x
  | _, _, .lst s h => .lst (kl _ _ s) (LitAll.keep kl kt h)
  | _, _, .tup s h => .tup (kt _ _ s) (LitAll.keep kl kt h)
theorem LitAll.keep {H H' : Hp} (kl : ∀ a xs, H a = some (.lst xs) → H' a = some (.lst xs)) (kt : ∀ a xs, H a = some (.tup xs) → H' a = some (.tup xs)) : ∀ {vs : List V} {ds : List PyData}, LitAll H vs ds → LitAll H' vs ds
  | _, _, .nil => .nil
  | _, _, .cons h t => .cons (Lit.keep kl kt h) (LitAll.keep kl kt t)
end
theorem Lit.same {H H' : Hp} (s : Same H H') {v : V} {d : PyData} (h : Lit H v d) : Lit H' v d := h.keep (fun a xs e => s _ _ e) fun a xs e => s _ _ e
theorem LitAll.same {H H' : Hp} (s : Same H H') {v : List V} {d : List PyData} (h : LitAll H v d) : LitAll H' v d := h.keep (fun a xs e => s _ _ e) fun a xs e => s _ _ e
mutual
theorem Lit.dp {K : PySem.W.Frag} {H : Hp} : ∀ {v : V} {d : PyData}, Lit H v d → Dp K H v d
  | _, _, .non => .non
  | _, _, .bl b => .bl b
  | _, _, .int i => .int i
  | _, _, .str x => .str x
  | _, _, .lst s h => .lst (SqL.of s) (LitAll.dp h)
  | _, _, .tup s h => .tup (SqT.of s) (LitAll.dp h)
theorem LitAll.dp {K : PySem.W.Frag} {H : Hp} : ∀ {vs : List V} {ds : List PyData}, LitAll H vs ds → DpAll K H vs ds
  | _, _, .nil => .nil
  | _, _, .cons h t => .cons (Lit.dp h) (LitAll.dp t)
end
mutual
def dpt : PyData → Nat
  | .tuple ds => dptL ds + 1
  | _ => 0
def dptL : List PyData → Nat
  | [] => 0
  | d :: ds => max (dpt d) (dptL ds)
end
mutual
theorem Lit.rep {H : Hp} : ∀ {v : V} {d : PyData} (n : Nat), dpt d ≤ n → Lit H v d → Rep H n v d
  | _, _, n, _, .non => by cases n <;> rfl
  | _, _, n, _, .bl b => by cases n <;> rfl
  | _, _, n, _, .int i => by cases n <;> rfl
  | _, _, n, _, .str x => by cases n <;> rfl
  | _, _, n, _, .lst s h => by cases n <;> exact ⟨_, _, rfl, s⟩
  | _, .tuple ds, n, hn, .tup s h => by
    rw [dpt] at hn
    cases n with
    | zero => omega
    | succ n => exact ⟨_, _, rfl, s, LitAll.rep n (by omega) h⟩
theorem LitAll.rep {H : Hp} : ∀ {vs : List V} {ds : List PyData} (n : Nat), dptL ds ≤ n → LitAll H vs ds → Paired (Rep H n) vs ds
  | _, _, _, _, .nil => .nil
  | _, d :: ds, n, hn, .cons h t => by
    rw [dptL] at hn
    exact .cons (Lit.rep n (by omega) h) (LitAll.rep n (by omega) t)
end
mutual
def noL : PyData → Bool
  | .tuple ds => noLL ds
  | .list _ => false
  | .dict _ => false
  | _ => true
def noLL : List PyData → Bool
  | [] => true
  | d :: ds => noL d && noLL ds
end
mutual
theorem Lit.dt {K : PySem.W.Frag} {H : Hp} : ∀ {v : V} {d : PyData}, noL d = true → Lit H v d → Dt K H v d
  | _, _, _, .non => .non
  | _, _, _, .bl b => .bl b
  | _, _, _, .int i => .int i
  | _, _, _, .str x => .str x
  | _, _, hn, .lst s h => by rw [noL] at hn; cases hn
  | _, _, hn, .tup s h => .tup (SqT.of s) (LitAll.dt (by rw [noL] at hn; exact hn) h)
theorem LitAll.dt {K : PySem.W.Frag} {H : Hp} : ∀ {vs : List V} {ds : List PyData}, noLL ds = true → LitAll H vs ds → DtAll K H vs ds
  | _, _, _, .nil => .nil
  | _, d :: ds, hn, .cons h t => by
    rw [noLL, Bool.and_eq_true] at hn
    exact .cons (Lit.dt hn.1 h) (LitAll.dt hn.2 t)
end
theorem LitAll.len {H : Hp} : ∀ {vs : List V} {ds : List PyData}, LitAll H vs ds → vs.length = ds.length
  | _, _, .nil => rfl
  | _, _, .cons _ t => by rw [List.length_cons, List.length_cons, t.len]
theorem LitAll.at {H : Hp} : ∀ {vs : List V} {ds : List PyData} {i : Nat} {d : PyData}, LitAll H vs ds → ds[i]? = some d → ∃ v, vs[i]? = some v ∧ Lit H v d
  | _, _, _, _, .nil, e => by simp at e
  | _, _, 0, _, .cons h _, e => by simp at e; subst e; exact ⟨_, rfl, h⟩
  | _, _, i + 1, d, .cons _ t, e => by
    obtain ⟨v, h1, h2⟩ := t.at (i := i) (d := d) (by simpa using e)
    exact ⟨v, by simpa using h1, h2⟩
/-- an expression that makes the data d -/
def MkL (σ : L2.St) (te : TE) (d : PyData) : Prop := ∀ (H : Hp) (Q : VK), (∀ v H', Same H H' → Lit H' v d → Q v H') → te σ H Q
def MkA (σ : L2.St) (ta : TA) (ds : List PyData) : Prop := ∀ (H : Hp) (Q : List V → Hp → Prop), (∀ vs H', Same H H' → LitAll H' vs ds → Q vs H') → ta σ H Q
section
variable {σ : L2.St}
theorem mk_non : MkL σ (tC .non) .none := fun H Q k => k _ _ (Same.refl _) .non
theorem mk_bl {b : Bool} : MkL σ (tC (.bl b)) (.bool b) := fun H Q k => k _ _ (Same.refl _) (.bl b)
theorem mk_int {i : Int} : MkL σ (tC (.int i)) (.int i) := fun H Q k => k _ _ (Same.refl _) (.int i)
theorem mk_str {x : Str} : MkL σ (tC (.str x)) (.str x) := fun H Q k => k _ _ (Same.refl _) (.str x)
theorem mk_nil : MkA σ tNil [] := fun H Q k => k _ _ (Same.refl _) .nil
theorem mk_cons {te : TE} {ta : TA} {d : PyData} {ds : List PyData} (h : MkL σ te d) (t : MkA σ ta ds) : MkA σ (tCons te ta) (d :: ds) := fun H Q k =>
  h H _ fun v H1 s1 l1 => t H1 _ fun vs H2 s2 l2 => k _ _ (s1.trans s2) (.cons (l1.same s2) l2)
theorem mk_lst {ta : TA} {ds : List PyData} (h : MkA σ ta ds) (hl : ds.length ≤ 1000) : MkL σ (tLst ta) (.list ds) := fun H Q k =>
  h H _ fun vs H1 s1 l1 => ⟨by rw [l1.len, PySem.sizeLine_eq]; omega, fun p hp => by
    have s2 : Same H1 (upd H1 p (.lst vs)) := Same.new (Same.refl _) hp
    exact k _ _ (s1.trans s2) (.lst upd_same (l1.same s2))⟩
theorem mk_tup {ta : TA} {ds : List PyData} (h : MkA σ ta ds) (hl : ds.length ≤ 1000) : MkL σ (tTup ta) (.tuple ds) := fun H Q k =>
  h H _ fun vs H1 s1 l1 => ⟨by rw [l1.len, PySem.sizeLine_eq]; omega, fun p hp => by
    have s2 : Same H1 (upd H1 p (.tup vs)) := Same.new (Same.refl _) hp
    exact k _ _ (s1.trans s2) (.tup upd_same (l1.same s2))⟩
end

end My

set_option Elab.async false
set_option linter.all false
set_option maxRecDepth 100000
set_option maxHeartbeats 4000000
namespace My
open PySem L2 PyProof.Rows
/-! ### lists that a comprehension makes -/
/-- what stays true when lists change -/
def Firm (R : Hp → V → PyData → Prop) : Prop := ∀ (H H' : Hp) (v : V) (d : PyData), (∀ a o, H a = some o → (∀ xs, o ≠ .lst xs) → H' a = some o) → R H v d → R H' v d
theorem paired_firm {R : Hp → V → PyData → Prop} (f : Firm R) {H H' : Hp} (k : ∀ a o, H a = some o → (∀ xs, o ≠ .lst xs) → H' a = some o) : ∀ {us : List V} {ds : List PyData}, Paired (R H) us ds → Paired (R H') us ds
  | _, _, .nil => .nil
  | _, _, .cons h t => .cons (f _ _ _ _ k h) (paired_firm f k t)
def fts (sel : Nat → Bool) (ds : Nat → PyData) (n : Nat) : List PyData := ((List.range n).filter sel).map ds
theorem fts_yes {sel : Nat → Bool} {ds : Nat → PyData} {n : Nat} (h : sel n = true) : fts sel ds (n + 1) = fts sel ds n ++ [ds n] := by
  unfold fts
  rw [List.range_succ, List.filter_append, List.map_append]
  simp [h]
theorem fts_no {sel : Nat → Bool} {ds : Nat → PyData} {n : Nat} (h : sel n = false) : fts sel ds (n + 1) = fts sel ds n := by
  unfold fts
  rw [List.range_succ, List.filter_append, List.map_append]
  simp [h]
theorem fts_le {sel : Nat → Bool} {ds : Nat → PyData} : ∀ (n : Nat), (fts sel ds n).length ≤ n
  | n => by
    unfold fts
    rw [List.length_map]
    exact Nat.le_trans (List.length_filter_le _ _) (by rw [List.length_range]; omega)
theorem lc_gen {R : Hp → V → PyData → Prop} (st : Firm R) {K : PySem.W.Frag} {a : Addr} {xs : List V} {i : Nat} {tt : TT} {te : TE} {vs : List Nat} {σ : L2.St} {H1 : Hp} {D : Addr} {Qd : Hp → Prop} (sel : Nat → Bool) (ds : Nat → PyData)
    (ha : H1 a = some (.lst xs)) (hD : H1 D = none) (hn : xs.length ≤ 1000000) (hw : ∀ x, wipe ((wipe σ vs).set i (some x)) vs = wipe σ vs)
    (hs : ∀ j x H2, xs[j]? = some x → Same H1 H2 → ∀ (Y : VK) (N : Hp → Prop), (sel j = true → ∀ y H4, Same H2 H4 → R H4 y (ds j) → Y y H4) → (sel j = false → ∀ H3, Same H2 H3 → N H3) → tt ((wipe σ vs).set i (some x)) H2 fun b H3 => if b = true then te ((wipe σ vs).set i (some x)) H3 Y else N H3)
    (hd : ∀ H' us, Same H1 H' → H' D = some (.lst us) → Paired (R H') us (fts sel ds xs.length) → Qd H') :
    ∃ W : Nat → Nat → Hp → Prop, (∃ m, W 0 m (L2.upd H1 D (.lst []))) ∧ ∀ k m H, W k m H →
      ((Itl K a).stop k H ∧ Qd H) ∨ ((Itl K a).go k H ∧ ∃ Nx : Hp → Prop, (∀ H', Nx H' → ∃ m', m' < m ∧ W (k + 1) m' H') ∧ ∀ x H', (Itl K a).yld k H x H' → gName i x (wipe σ vs) H' fun σ2 H2 => wipe σ2 vs = wipe σ vs ∧ tt σ2 H2 fun b H3 =>
        if b = true then te σ2 H3 fun y H4 => ∃ acc, H4 D = some (.lst acc) ∧ acc.length < sizeLine ∧ Nx (L2.upd H4 D (.lst (acc ++ [y]))) else Nx H3) := by
  refine lc_list (xs := xs) (fun k H2 => Same H1 H2 ∧ ∃ us, H2 D = some (.lst us) ∧ Paired (R H2) us (fts sel ds k)) ⟨Same.new (Same.refl _) hD, [], upd_same, .nil⟩ (fun k H2 _ z => SqL.of (z.1 _ _ ha)) ?_ ?_
  · rintro j x H2 hx ⟨s2, us, c2, p2⟩
    have hj : j < xs.length := (List.getElem?_eq_some_iff.mp hx).1
    refine ⟨hw x, ?_⟩
    refine hs j x H2 hx s2 _ _ (fun hsel y H4 s4 r4 => ?_) fun hsel H3 s3 => ?_
    · have c4 := s4 _ _ c2
      have hl : us.length ≤ j := Nat.le_trans (Nat.le_of_eq (Paired.length p2)) (fts_le j)
      have kk : ∀ a o, H4 a = some o → (∀ xs, o ≠ .lst xs) → (L2.upd H4 D (.lst (us ++ [y]))) a = some o := fun a o e n => by
        rw [upd_ne (fun z => by subst z; rw [c4] at e; exact n us (Option.some.inj e).symm)]
        exact e
      refine ⟨us, c4, by rw [PySem.sizeLine_eq]; omega, ⟨fun e o h => ?_, us ++ [y], upd_same, ?_⟩⟩
      · rw [upd_ne (ne_of_none h hD)]; exact s4 _ _ (s2 _ _ h)
      · rw [fts_yes hsel]
        exact paired_snoc (st _ _ _ _ kk r4) (paired_firm st kk (paired_firm st (fun a o e _ => s4 _ _ e) p2))
    · refine ⟨s2.trans s3, us, s3 _ _ c2, ?_⟩
      rw [fts_no hsel]
      exact paired_firm st (fun a o e _ => s3 _ _ e) p2
  · rintro H2 ⟨s2, us, c2, p2⟩
    exact hd H2 us s2 c2 p2
/-- data without lists -/
def LitN (H : Hp) (v : V) (d : PyData) : Prop := noL d = true ∧ Lit H v d
mutual
theorem Lit.keepT {H H' : Hp} (kt : ∀ a xs, H a = some (.tup xs) → H' a = some (.tup xs)) : ∀ {v : V} {d : PyData}, noL d = true → Lit H v d → Lit H' v d
  | _, _, _, .non => .non
  | _, _, _, .bl b => .bl b
  | _, _, _, .int i => .int i
  | _, _, _, .str x => .str x
  | _, _, hn, .lst s h => by rw [noL] at hn; cases hn
  | _, _, hn, .tup s h => .tup (kt _ _ s) (LitAll.keepT kt (by rw [noL] at hn; exact hn) h)
theorem LitAll.keepT {H H' : Hp} (kt : ∀ a xs, H a = some (.tup xs) → H' a = some (.tup xs)) : ∀ {vs : List V} {ds : List PyData}, noLL ds = true → LitAll H vs ds → LitAll H' vs ds
  | _, _, _, .nil => .nil
  | _, d :: ds, hn, .cons h t => by
    rw [noLL, Bool.and_eq_true] at hn
    exact .cons (Lit.keepT kt hn.1 h) (LitAll.keepT kt hn.2 t)
end
theorem firm_lit : Firm LitN := fun H H' v d k h => ⟨h.1, h.2.keepT (fun a xs e => k _ _ e fun ys z => by cases z) h.1⟩
theorem firm_dt {K : PySem.W.Frag} : Firm (fun H v d => Dt K H v d) := fun H H' v d k h => by
  refine Dt.kept (c := ⟨0, 0, 0, 0, 0, 0, 0⟩) (fun a o e f => k _ _ e fun xs z => ?_) h
  subst z
  exact f
theorem lit_all {H : Hp} : ∀ {us : List V} {ds : List PyData}, Paired (LitN H) us ds → LitAll H us ds ∧ noLL ds = true
  | _, _, .nil => ⟨.nil, rfl⟩
  | _, _, .cons h t => by
    obtain ⟨h1, h2⟩ := lit_all t
    exact ⟨.cons h.2 h1, by rw [noLL, h.1, h2]; rfl⟩
theorem dt_all {K : PySem.W.Frag} {H : Hp} : ∀ {us : List V} {ds : List PyData}, Paired (fun v d => Dt K H v d) us ds → DtAll K H us ds
  | _, _, .nil => .nil
  | _, _, .cons h t => .cons h (dt_all t)
/-! ### an expression that makes data, reading lists of ours -/
def MkH (H0 : Hp) (σ : L2.St) (te : TE) (d : PyData) : Prop := ∀ (H : Hp) (Q : VK), Same H0 H → (∀ v H', Same H H' → Lit H' v d → Q v H') → te σ H Q
def MkHA (H0 : Hp) (σ : L2.St) (ta : TA) (ds : List PyData) : Prop := ∀ (H : Hp) (Q : List V → Hp → Prop), Same H0 H → (∀ vs H', Same H H' → LitAll H' vs ds → Q vs H') → ta σ H Q
section
variable {H0 : Hp} {σ : L2.St}
theorem mh_str {x : Str} : MkH H0 σ (tC (.str x)) (.str x) := fun H Q _ k => k _ _ (Same.refl _) (.str x)
theorem mh_int {i : Int} : MkH H0 σ (tC (.int i)) (.int i) := fun H Q _ k => k _ _ (Same.refl _) (.int i)
theorem mh_var {i : Nat} {v : V} {d : PyData} (hσ : σ[i]? = some (some v)) (h : Lit H0 v d) : MkH H0 σ (tVar i) d := fun H Q s k => ⟨_, hσ, k _ _ (Same.refl _) (h.same s)⟩
theorem mh_nil : MkHA H0 σ tNil [] := fun H Q _ k => k _ _ (Same.refl _) .nil
theorem mh_cons {te : TE} {ta : TA} {d : PyData} {ds : List PyData} (h : MkH H0 σ te d) (t : MkHA H0 σ ta ds) : MkHA H0 σ (tCons te ta) (d :: ds) := fun H Q s k =>
  h H _ s fun v H1 s1 l1 => t H1 _ (s.trans s1) fun vs H2 s2 l2 => k _ _ (s1.trans s2) (.cons (l1.same s2) l2)
theorem mh_lst {ta : TA} {ds : List PyData} (h : MkHA H0 σ ta ds) (hl : ds.length ≤ 1000) : MkH H0 σ (tLst ta) (.list ds) := fun H Q s k =>
  h H _ s fun vs H1 s1 l1 => ⟨by rw [l1.len, PySem.sizeLine_eq]; omega, fun p hp => by
    have s2 : Same H1 (upd H1 p (.lst vs)) := Same.new (Same.refl _) hp
    exact k _ _ (s1.trans s2) (.lst upd_same (l1.same s2))⟩
theorem mh_tup {ta : TA} {ds : List PyData} (h : MkHA H0 σ ta ds) (hl : ds.length ≤ 1000) : MkH H0 σ (tTup ta) (.tuple ds) := fun H Q s k =>
  h H _ s fun vs H1 s1 l1 => ⟨by rw [l1.len, PySem.sizeLine_eq]; omega, fun p hp => by
    have s2 : Same H1 (upd H1 p (.tup vs)) := Same.new (Same.refl _) hp
    exact k _ _ (s1.trans s2) (.tup upd_same (l1.same s2))⟩
theorem mh_add {ta tb : TE} {i j n : Int} (ha : MkH H0 σ ta (.int i)) (hb : MkH H0 σ tb (.int j)) (e : i + j = n) : MkH H0 σ (tOp (rI0 fun i j => .int (i + j)) ta tb) (.int n) := fun H Q s k =>
  ha H _ s fun v H1 s1 l1 => hb H1 _ (s.trans s1) fun u H2 s2 l2 => by
    cases l1
    cases l2
    refine ⟨_, _, rfl, rfl, k _ _ (s1.trans s2) ?_⟩
    subst e; exact .int _
theorem mh_sub {ta tb : TE} {i j n : Int} (ha : MkH H0 σ ta (.int i)) (hb : MkH H0 σ tb (.int j)) (e : i - j = n) : MkH H0 σ (tOp (rI0 fun i j => .int (i - j)) ta tb) (.int n) := fun H Q s k =>
  ha H _ s fun v H1 s1 l1 => hb H1 _ (s.trans s1) fun u H2 s2 l2 => by
    cases l1
    cases l2
    refine ⟨_, _, rfl, rfl, k _ _ (s1.trans s2) ?_⟩
    subst e; exact .int _
theorem mh_neg {ta : TE} {i n : Int} (ha : MkH H0 σ ta (.int i)) (e : -i = n) : MkH H0 σ (tUn (rU fun i => .int (-i)) ta) (.int n) := fun H Q s k =>
  ha H _ s fun v H1 s1 l1 => by
    cases l1
    refine ⟨_, rfl, k _ _ s1 ?_⟩
    subst e; exact .int _
/-- a list of ours at an index -/
theorem mh_ix {K : PySem.W.Frag} {tl ti : TE} {a : Addr} {xs : List V} {z : Int} {v : V} {d : PyData} (ht : ∀ (H : Hp) (Q : VK), Q (.ref a) H → tl σ H Q) (ha : H0 a = some (.lst xs)) (hi : MkH H0 σ ti (.int z)) (hat : atI xs z = some v) (hv : Lit H0 v d) : MkH H0 σ (tOp (rIxL K) tl ti) d := fun H Q s k =>
  ht H _ (hi H _ s fun u H1 s1 l1 => by
    cases l1
    exact ⟨a, xs, z, v, rfl, rfl, SqL.of (s1 _ _ (s _ _ ha)), hat, k _ _ s1 (hv.same (s.trans s1))⟩)
/-- a written list at an index -/
theorem mh_ixW {K : PySem.W.Frag} {ta : TA} {ti : TE} {ds : List PyData} {n : Nat} {d : PyData} (h : MkHA H0 σ ta ds) (hl : ds.length ≤ 1000) (hi : MkH H0 σ ti (.int (n : Int))) (hd : ds[n]? = some d) : MkH H0 σ (tOp (rIxL K) (tLst ta) ti) d := fun H Q s k =>
  h H _ s fun vs H1 s1 l1 => ⟨by rw [l1.len, PySem.sizeLine_eq]; omega, fun p hp => by
    have s2 : Same H1 (upd H1 p (.lst vs)) := Same.new (Same.refl _) hp
    refine hi _ _ ((s.trans s1).trans s2) fun u H3 s3 l3 => ?_
    cases l3
    obtain ⟨v, hv, lv⟩ := l1.at hd
    exact ⟨p, vs, (n : Int), v, rfl, rfl, SqL.of (s3 _ _ upd_same), atI_nat hv, k _ _ ((s1.trans s2).trans s3) ((lv.same s2).same s3)⟩⟩
/-- x != data -/
theorem ne_mk {K : PySem.W.Frag} {te : TE} {H : Hp} {x : V} {d : PyData} {Q : Bool → Hp → Prop} (hx : Dp K H x d) (hm : MkH H0 σ te d) (s0 : Same H0 H) (keep : ∀ H', Same H H' → Dp K H' x d) (f : SeqAt.shaped d = true ∧ PyData.eqv d d = true) (k : ∀ H', Same H H' → Q false H') :
    te σ H fun y H2 => rNeD K x y H2 fun x H' => ∃ k, x = .bl k ∧ Q k H' := hm H _ s0 fun v H1 s1 l1 => ⟨d, d, keep _ s1, l1.dp, f.1, f.1, _, rfl, by rw [f.2]; exact k _ s1⟩
end
/-! ### behind the make: the loop alone -/
structure Tl (K : PySem.W.Frag) (c : CC) (H : Hp) (d l : Addr) (ms : List Int) (nn LL : Int) (lp : Addr) (L : Ly) (M : Mach) (os : List (Addr × List V)) : Prop where
  isl : IsLp c H lp L
  m : MR K c H L M
  rlp : L.role lp = none
  p : Pen H d l ms nn LL
  rd : L.role d = none
  rl : L.role l = none
  os : ∀ q ∈ os, H q.1 = some (.lst q.2) ∧ L.role q.1 = none
section
variable {K : PySem.W.Frag} {c : CC} {H H' : Hp} {d l : Addr} {ms : List Int} {nn LL : Int} {lp : Addr} {L L' : Ly} {M M' : Mach} {os : List (Addr × List V)}
theorem Tl.stp (h : Tl K c H d l ms nn LL lp L M os) (s : Stp H L H' L') (m : MR K c H' L' M') : Tl K c H' d l ms nn LL lp L' M' os where
  isl := by
    obtain ⟨ldx, e⟩ := h.isl
    exact ⟨ldx, by rw [s.st]; exact s.off _ _ e h.rlp⟩
  m := m
  rlp := by
    obtain ⟨ldx, e⟩ := h.isl
    exact s.not (c := c) e h.rlp
  p := ⟨s.off _ _ h.p.dc h.rd, s.off _ _ h.p.ls h.rl, h.p.n0, h.p.l0⟩
  rd := s.not (c := c) h.p.dc h.rd
  rl := s.not (c := c) h.p.ls h.rl
  os := fun q hq => by
    obtain ⟨h1, h2⟩ := h.os q hq
    exact ⟨s.off _ _ h1 h2, s.not (c := c) h1 h2⟩
theorem Tl.same (h : Tl K c H d l ms nn LL lp L M os) (s : Same H H') : Tl K c H' d l ms nn LL lp L M os := { h with
  isl := by
    obtain ⟨ldx, e⟩ := h.isl
    exact ⟨ldx, s _ _ e⟩
  m := h.m.same s
  p := h.p.same s
  os := fun q hq => ⟨s _ _ (h.os q hq).1, (h.os q hq).2⟩ }
theorem Tl.dr {n' L0 b : Int} (h : Tl K c H d l ms nn LL lp L M os) (Y : LC K c) (y : Dr H H' d l ms nn n' L0 b) : Tl K c H' d l ms n' L0 lp L M os := { h with
  isl := by
    obtain ⟨ldx, e⟩ := h.isl
    exact ⟨ldx, y.kp _ _ e (ne_of e h.p.dc (by intro z; cases z))⟩
  m := h.m.frame fun a o e z => y.kp a o e fun q => by
    rw [q, h.p.dc] at e
    have eo := Option.some.inj e
    subst eo
    rcases z with z | z
    · exact z (q ▸ h.rd)
    · exact z
  p := y.pn
  os := fun q hq => by
    obtain ⟨h1, h2⟩ := h.os q hq
    exact ⟨y.kp _ _ h1 (ne_of h1 h.p.dc (by intro z; cases z)), h2⟩ }
theorem Tl.rn (h : Tl K c H d l ms nn LL lp L M os) {e : Addr} (he : H e = none) : L.role e = none := by
  cases z : L.role e with
  | none => rfl
  | some t =>
    obtain ⟨o, q, _⟩ := h.m.cr.kind e (by rw [z]; exact fun y => by cases y)
    rw [he] at q; cases q
theorem Tl.add (h : Tl K c H d l ms nn LL lp L M os) {a : Addr} {xs : List V} (e : H a = some (.lst xs)) (r : L.role a = none) : Tl K c H d l ms nn LL lp L M ((a, xs) :: os) := { h with
  os := fun q hq => by
    rcases List.mem_cons.mp hq with rfl | hq
    · exact ⟨e, r⟩
    · exact h.os q hq }
end
/-! ### numbers in any order -/
theorem nodup_cast (m : Nat) : ((List.range m).map fun n : Nat => (n : Int)).Nodup := by
  have h : (List.range m).Nodup := List.nodup_range
  unfold List.Nodup at h ⊢
  rw [List.pairwise_map]
  exact h.imp fun hne z => hne (by omega)
theorem rg_eq (m : Nat) {z : Int} (hz : z = (m : Int)) : rgV 0 z = ((List.range m).map fun n : Nat => (n : Int)).map V.int := by
  unfold rgV
  rw [hz, List.map_map, show ((m : Int) - 0).toNat = m by omega]
  apply List.map_congr_left
  intro i _
  show V.int (0 + (i : Int)) = V.int (i : Int)
  rw [Int.zero_add]
end My

set_option Elab.async false
set_option linter.all false
set_option maxRecDepth 100000
set_option maxHeartbeats 4000000
namespace My
open PySem L2 PyProof.Rows
abbrev iK (k : Nat) : Key := .inl (k : Int)
abbrev sK (x : Str) : Key := .inr x
theorem iK_ne {a b : Nat} (h : a ≠ b) : iK a ≠ iK b := fun z => h (by have := Sum.inl.inj z; omega)
theorem iK_inj {a b : Nat} : iK a = iK b ↔ a = b := ⟨fun z => by have := Sum.inl.inj z; omega, fun z => by rw [z]⟩
structure Fr (M M' : Mach) : Prop where
  mi : M'.micros = M.micros
  op : M'.opened = M.opened
  qu : M'.queues = M.queues
  be : M'.bears = M.bears
  bu : M'.busy = M.busy
  cl : M'.clock = M.clock
  ak : M'.asking = M.asking
  ti : M'.timers = M.timers
  il : M'.idles = M.idles
  so : M'.soonest = M.soonest
theorem Fr.refl (M : Mach) : Fr M M := ⟨rfl, rfl, rfl, rfl, rfl, rfl, rfl, rfl, rfl, rfl⟩
theorem Fr.trans {M M1 M2 : Mach} (x : Fr M M1) (y : Fr M1 M2) : Fr M M2 := ⟨y.mi.trans x.mi, y.op.trans x.op, y.qu.trans x.qu, y.be.trans x.be, y.bu.trans x.bu, y.cl.trans x.cl, y.ak.trans x.ak, y.ti.trans x.ti, y.il.trans x.il, y.so.trans x.so⟩
theorem dp_nil {β : Type} (k : Key) : dp ([] : List (Key × β)) k = [] := rfl
theorem fr_make (M : Mach) (x : Str) : Fr M (makeP M x) := ⟨rfl, rfl, rfl, rfl, rfl, rfl, rfl, rfl, rfl, rfl⟩
theorem fr_ahead (M : Mach) (row : List Nat) (e : Nat) : Fr M (aheadM M row e) := ⟨rfl, rfl, rfl, rfl, rfl, rfl, rfl, rfl, rfl, rfl⟩
theorem fr_take (M : Mach) (n : Nat) (g : Fate) : Fr M (takeM M n g) := by
  unfold takeM lateM tellM
  split
  · exact Fr.refl _
  · split <;> exact ⟨rfl, rfl, rfl, rfl, rfl, rfl, rfl, rfl, rfl, rfl⟩
def mkD (x : Str) : PyData := .tuple [.str "make", .str x]
def foD (x y : Str) : PyData := .tuple [.str "follow", .str x, .str y]
def kpD (x : Str) (v : PyData) : PyData := .tuple [.str "keep", .str x, v]
def brD (x : Str) (v : PyData) : PyData := .tuple [.str "break", .str x, v]
def evD (c : Int) (f : Fate) (k : Nat) : PyData := .tuple [.int c, .str f.word, .int (k : Int), f.arg]
def agD (c : Int) (k : Nat) : PyData := .tuple [.int c, .str "again", .int (k : Int)]
theorem fr_behind (M : Mach) (n : Nat) (f : Fate) : Fr M (behindM M n f) := by
  unfold behindM behind2 behind1 tellM
  simp only
  split <;> (try split) <;> exact ⟨rfl, rfl, rfl, rfl, rfl, rfl, rfl, rfl, rfl, rfl⟩
theorem behind_ev (M : Mach) (n : Nat) (f : Fate) : (behindM M n f).events = M.events ++ [evD M.clock f n] ∧ (behindM M n f).named = M.named ∧ (behindM M n f).fates = M.fates.set n f ∧ (behindM M n f).takers = dp M.takers (iK n) ∧ (behindM M n f).ticks ≤ M.ticks + 2 := by
  unfold behindM behind2 behind1 tellM
  simp only
  split <;> (try split) <;> exact ⟨rfl, rfl, rfl, rfl, by simp only; omega⟩
theorem behind_kept {M : Mach} {n : Nat} {f : Fate} (h : f.word = "kept") : (behindM M n f).taken = dp M.taken (iK n) ∧ (behindM M n f).untold = M.untold := by
  unfold behindM behind2
  simp only
  rw [if_pos h]
  exact ⟨rfl, rfl⟩
theorem behind_brk {M : Mach} {n : Nat} {f : Fate} (h : ¬ f.word = "kept") : (behindM M n f).taken = M.taken ∧ (behindM M n f).untold = if lk M.taken (iK n) = none then pt M.untold (iK n) () else M.untold := by
  unfold behindM behind2
  simp only
  rw [if_neg h]
  have e : (behind1 M n f).taken = M.taken := rfl
  rw [e]
  split <;> exact ⟨rfl, rfl⟩
theorem fr_tell (M : Mach) (ds : List PyData) : Fr M (tellM M ds) := ⟨rfl, rfl, rfl, rfl, rfl, rfl, rfl, rfl, rfl, rfl⟩
structure Q1 (M : Mach) (ws : List Wk) : Prop where
  q : M.queues = [ws]
  be : M.bears = [none]
  bu : M.busy = false
  cl : M.clock = 0
  ak : M.asking = none
  ti : M.timers = []
  il : M.idles = []
  so : M.soonest = none
  mi : M.micros = []
  op : M.opened = []
theorem Q1.calm {M : Mach} {ws : List Wk} (h : Q1 M ws) : Calm M := ⟨h.ak, h.ti, h.il, h.so⟩
theorem Q1.fr {M M' : Mach} {ws : List Wk} (h : Q1 M ws) (f : Fr M M') : Q1 M' ws := ⟨f.qu.trans h.q, f.be.trans h.be, f.bu.trans h.bu, f.cl.trans h.cl, f.ak.trans h.ak, f.ti.trans h.ti, f.il.trans h.il, f.so.trans h.so, f.mi.trans h.mi, f.op.trans h.op⟩
theorem Q1.begun {M : Mach} {w : Wk} {rest : List Wk} (h : Q1 M (w :: rest)) : Q1 (begunM M 0 w rest "least") rest := ⟨by show M.queues.set 0 rest = _; rw [h.q]; rfl, h.be, h.bu, h.cl, h.ak, h.ti, h.il, h.so, h.mi, h.op⟩
def wkP (M : Mach) (dn : PyData) (ds : List PyData) : Wk := ⟨M.numbers, dn, ds, .none, none, none⟩
theorem Q1.post {M : Mach} {ws : List Wk} (h : Q1 M ws) (dn : PyData) (ds : List PyData) : Q1 (postM M 0 dn ds) (ws ++ [wkP M dn ds]) := ⟨by
  show M.queues.set 0 (M.queues.getD 0 [] ++ [wkP M dn ds]) = _
  rw [h.q]; rfl, h.be, h.bu, h.cl, h.ak, h.ti, h.il, h.so, h.mi, h.op⟩
theorem Q1.task {A : ActR} {M M1 : Mach} {w : Wk} {rest : List Wk} (h : Q1 M (w :: rest)) (ha : w.around = none) (hp : w.pledge = none) (ht : M.ticks + 1 < 1000000) (f : Fresh A w.told (begunM M 0 w rest "least") w.script M1) : Task A M M1 :=
  .mk ⟨fun b hb => by rw [h.be] at hb; exact List.mem_singleton.mp hb, rfl, fun j hj => absurd hj (Nat.not_lt_zero _)⟩ (by rw [h.q]; rfl) ha hp ht f
theorem fr_tellAll : ∀ (ks : List Key) (M : Mach), Fr M (tellAllM M ks)
  | [], M => Fr.refl M
  | k :: r, M => (fr_tell M [.str "unhandled", keyD k]).trans (fr_tellAll r (tellM M [.str "unhandled", keyD k]))
theorem Q1.stop {A : ActR} {D : Mach → Mach → Prop} {M : Mach} (h : Q1 M []) : Turn A D M false M := .none h.calm (fun ws hw => by rw [h.q] at hw; exact List.mem_singleton.mp hw) h.mi h.op
def tkD (k : Nat) : PyData := .tuple [.int 0, .str "task", .int (k : Int), .int ((0 : Nat) : Int), .str "least"]
abbrev M00 : Mach := mach0 100 8 [none]
abbrev noR : Tk → Prop := fun _ => False
theorem q00 : Q1 M00 [] := ⟨rfl, rfl, rfl, rfl, rfl, rfl, rfl, rfl, rfl, rfl⟩
structure OkS (ds : List PyData) : Prop where
  is : isS (.tuple ds) = true
  sz : szD (.tuple ds) ≤ 1000000
  nl : noLL ds = true
  dp : dpt (.tuple ds) ≤ 5
def gdB (d : PyData) : Bool := decide (deedB (cnt 4) d = some 0) && (decide (szD d ≤ 100) && (noL d && decide (dpt d ≤ 1)))
theorem gd_all : ∀ {ds : List PyData}, (∀ d ∈ ds, gdB d = true) → sumO (ds.map (deedB (cnt 4))) = some 0 ∧ szL ds ≤ 100 * ds.length ∧ noLL ds = true ∧ dptL ds ≤ 1
  | [], _ => ⟨rfl, Nat.zero_le _, rfl, Nat.zero_le _⟩
  | d :: ds, h => by
    obtain ⟨h1, h2, h3, h4⟩ := gd_all (fun x hx => h x (List.mem_cons_of_mem _ hx))
    have g := h d (List.mem_cons_self ..)
    unfold gdB at g
    simp only [Bool.and_eq_true, decide_eq_true_eq] at g
    obtain ⟨g1, g2, g3, g4⟩ := g
    refine ⟨?_, ?_, ?_, ?_⟩
    · rw [List.map_cons, g1]
      show (sumO (ds.map (deedB (cnt 4)))).map (0 + ·) = _
      rw [h1]; rfl
    · rw [szL, List.length_cons]; omega
    · rw [noLL, g3, h3]; rfl
    · rw [dptL]; omega
theorem okS_of {ds : List PyData} (h : ∀ d ∈ ds, gdB d = true) (hl : ds.length ≤ 100) : OkS ds := by
  obtain ⟨h1, h2, h3, h4⟩ := gd_all h
  refine ⟨?_, by rw [szD]; omega, h3, by rw [dpt]; omega⟩
  unfold isS
  rw [show cnt 5 (.tuple ds) = (sumO (ds.map (deedB (cnt 4)))).map (ds.length + ·) from rfl, h1]
  exact decide_eq_true (show ds.length + 0 ≤ 200 by omega)
def wdE : PyData → Str
  | .tuple (_ :: .str x :: _) => x
  | _ => ""
def tlE : PyData → PyData
  | .tuple (_ :: r) => .tuple r
  | d => d
def thE : PyData → PyData
  | .tuple (_ :: _ :: d :: _) => d
  | d => d
def IsEv (d : PyData) : Prop := ∃ (x : Str) (d2 : PyData) (r : List PyData), d = .tuple (.int 0 :: .str x :: d2 :: r)
theorem fts_list {p : PyData → Bool} {f : PyData → PyData} : ∀ (l : List PyData), fts (fun j => p (l.getD j .none)) (fun j => f (l.getD j .none)) l.length = (l.filter p).map f := by
  intro l
  have key : ∀ n, n ≤ l.length → fts (fun j => p (l.getD j .none)) (fun j => f (l.getD j .none)) n = ((l.take n).filter p).map f := by
    intro n
    induction n with
    | zero => intro _; rfl
    | succ n ih =>
      intro hn
      have hg : l[n]? = some (l.getD n .none) := by
        rw [List.getD_eq_getElem?_getD, List.getElem?_eq_getElem (by omega)]; rfl
      rw [take_snoc hg, List.filter_append, List.map_append]
      cases hp : p (l.getD n .none) with
      | true => rw [fts_yes hp, ih (by omega), List.filter_cons, if_pos hp]; rfl
      | false => rw [fts_no hp, ih (by omega), List.filter_cons, if_neg (by rw [hp]; decide)]; simp
  rw [key _ (Nat.le_refl _), List.take_length]
theorem fts_all (ds : Nat → PyData) (n : Nat) : fts (fun _ => true) ds n = (List.range n).map ds := by
  unfold fts
  rw [List.filter_eq_self.mpr fun _ _ => rfl]
theorem Dt.same {K : PySem.W.Frag} {H H' : Hp} (s : Same H H') {v : V} {d : PyData} (h : Dt K H v d) : Dt K H' v d := h.kept (c := ⟨0, 0, 0, 0, 0, 0, 0⟩) (Kept.of s)
theorem DtAll.same {K : PySem.W.Frag} {H H' : Hp} (s : Same H H') {v : List V} {d : List PyData} (h : DtAll K H v d) : DtAll K H' v d := h.kept (c := ⟨0, 0, 0, 0, 0, 0, 0⟩) (Kept.of s)
theorem post_of {K : PySem.W.Frag} {c : CC} {CS CR : Addr} {H : Hp} {L : Ly} {M : Mach} {lp : Addr} {v : V} {ds : List PyData} {Q : VK} {E : XK} (il : IsLp c H lp L) (m : MR K c H L M) (hb : M.busy = false) (ht : M.ticks < 999999) (hq : M.queues.length = 1) (lit : Lit H v (.tuple ds)) (ok : OkS ds)
    (k : ∀ H' L', MR K c H' L' (postM M 0 (.str "work") ds) → Stp H L H' L' → Q (.int (M.numbers : Int)) H') : spPost K c CS CR [.ref lp, v, .int 0, .str "work"] H Q E := by
  refine ⟨lp, L, M, v, 5, .tuple ds, .int 0, 5, .int 0, .str "work", .str "work", rfl, il, m, hb, ht, lit.rep 5 ok.dp, ok.sz, Lit.rep 5 (by decide) (.int 0), .str _, ?_, ?_, ?_⟩
  · intro z; rw [ok.is] at z; cases z
  · intro _ z
    rw [hq] at z
    cases z
  · intro _ _
    exact ⟨ds, 0, rfl, rfl, by rw [hq]; decide, lit.dt (by rw [noL]; exact ok.nl), k⟩
theorem map_getD {α β : Type} (f : α → β) (z : α) (l : List α) : (List.range l.length).map (fun i => f (l.getD i z)) = l.map f := by
  apply List.ext_getElem?
  intro i
  rw [List.getElem?_map, List.getElem?_map]
  by_cases h : i < l.length
  · rw [List.getElem?_range h, List.getElem?_eq_getElem h]
    show some (f (l.getD i z)) = some (f l[i])
    rw [List.getD_eq_getElem?_getD, List.getElem?_eq_getElem h]; rfl
  · rw [List.getElem?_eq_none (by rw [List.length_range]; omega), List.getElem?_eq_none (by omega)]; rfl
theorem DtAll.back {K : PySem.W.Frag} {H : Hp} : ∀ {vs : List V} {ds : List PyData} {i : Nat} {v : V}, DtAll K H vs ds → vs[i]? = some v → ∃ d, ds[i]? = some d ∧ Dt K H v d
  | _, _, _, _, .nil, e => by simp at e
  | _, _, 0, _, .cons h _, e => by simp at e; subst e; exact ⟨_, rfl, h⟩
  | _, _, i + 1, v, .cons _ t, e => by
    obtain ⟨d, h1, h2⟩ := DtAll.back (i := i) (v := v) t (by simpa using e)
    exact ⟨d, by simpa using h1, h2⟩
theorem LitAll.app {H : Hp} : ∀ {vs us : List V} {ds es : List PyData}, LitAll H vs ds → LitAll H us es → LitAll H (vs ++ us) (ds ++ es)
  | _, _, _, _, .nil, h => h
  | _, _, _, _, .cons a t, h => .cons a (t.app h)
theorem ev_at {K : PySem.W.Frag} {H : Hp} {v : V} {d : PyData} (e : IsEv d) (h : Dt K H v d) : ∃ (t : Addr) (v0 v2 : V) (y : Str) (vr : List V) (d2 : PyData) (r : List PyData), v = .ref t ∧ SqT K H t (v0 :: .str y :: v2 :: vr) ∧ d = .tuple (.int 0 :: .str y :: d2 :: r) ∧ Dt K H v2 d2 ∧ DtAll K H vr r := by
  obtain ⟨y, d2, r, rfl⟩ := e
  cases h with | tup s hx =>
  cases hx with | cons h0 hx =>
  cases hx with | cons h1 hx =>
  cases hx with | cons h2 hx =>
  cases h1
  exact ⟨_, _, _, _, _, _, _, rfl, s, rfl, h2, hx⟩
theorem inV_two (y a b : Str) : inV (.str y) [.str a, .str b] = (decide (y = a) || decide (y = b)) := by
  have e : ∀ a : Str, eqV (.str a) (.str y) = decide (y = a) := fun a => by
    show (a == y) = _
    by_cases h : y = a
    · subst h; simp
    · rw [decide_eq_false h]
      exact beq_eq_false_iff_ne.mpr (fun z => h z.symm)
  show (eqV (.str a) (.str y) || (eqV (.str b) (.str y) || false)) = _
  rw [e, e, Bool.or_false]
theorem mh_ixV {H0 : Hp} {σ : L2.St} {K : PySem.W.Frag} {i : Nat} {ti : TE} {a : Addr} {xs : List V} {z : Int} {v : V} {d : PyData} (ht : σ[i]? = some (some (.ref a))) (ha : H0 a = some (.lst xs)) (hi : MkH H0 σ ti (.int z)) (hat : atI xs z = some v) (hv : Lit H0 v d) : MkH H0 σ (tOp (rIxL K) (tVar i) ti) d :=
  mh_ix (a := a) (fun H Q q => ⟨_, ht, q⟩) ha hi hat hv
theorem ne_eqD {K : PySem.W.Frag} {x y : V} {d : PyData} {H : Hp} {Q : Bool → Hp → Prop} (h1 : Dp K H x d) (h2 : Dp K H y d) (f : SeqAt.shaped d = true ∧ PyData.eqv d d = true) (h : Q false H) : rNeD K x y H fun x H' => ∃ k, x = .bl k ∧ Q k H' := ⟨d, d, h1, h2, f.1, f.1, _, rfl, by rw [f.2]; exact h⟩
theorem rep_flat {α : Type} (n : Nat) (x : α) : (List.replicate n [x]).flatten = List.replicate n x := by
  induction n with
  | zero => rfl
  | succ n ih => rw [List.replicate_succ, List.flatten_cons, ih]; rfl
theorem dp_rep {K : PySem.W.Frag} {H : Hp} {v : V} {d : PyData} (h : Dp K H v d) : ∀ n : Nat, DpAll K H (List.replicate n v) (List.replicate n d)
  | 0 => .nil
  | n + 1 => .cons h (dp_rep h n)
end My

set_option Elab.async false
set_option linter.all false
set_option maxRecDepth 100000
set_option maxHeartbeats 4000000
namespace My
open PySem L2 PyProof.Rows
/-! ### what is to be done at once for a taker (works that wait left out) -/
def notW : Tk → Prop
  | .work _ => False
  | _ => True
abbrev nMic : List Str := ["book", "taker", "fate", "kind", "number", "pledge", "kept", "broken", "word", "worth", "script"]
theorem scMic : FnScope nMic ["book", "taker", "fate"] (d_micro_of).scope := ⟨rfl, rfl, rfl, by decide +kernel, rfl, by decide +kernel, by decide +kernel⟩
section
variable {P : Program} {w : World} {K : PySem.W.Frag} {mg : Str → Option Value} {pB : Heap} {c : CC}
theorem ok_mic {f fW : Addr} {fd dW : FuncData} (F : FnDd K d_micro_of f fd) (X : MC K c) (GW : FnOk P w K mg pB CX0 1 fW dW nWork (spWork c.wk)) (MW : Mkc K mg "Work" c.wk fW dW nWork) : FnOk P w K mg pB CX0 3 f fd ["book", "taker", "fate"] (spMic K c notW) := by
  refine F.ok scMic (fun vs H Q E h => ?_) (fun cdv A outer s0 H vs Q E hr h => ?_)
  · obtain ⟨L, M, t, f, vt, vf, rfl, _⟩ := h
    rfl
  · obtain ⟨L, M, t, f, vt, vf, rfl, m, ht, hs, hf, hnf, hR, htk, k⟩ := h
    have nd := scMic.nd
    have hr2 : Room 2 _ := hr
    refine ⟨_, pss_cons (ps_set (i := 3) nd rfl (Or.inl rfl) (pe_ix ix_tup (pv 1) pe_int (fun _ _ => rfl)))
      (pss_cons (ps_if (pt_cmpR op_eq (pv 3) pe_str (nomark _)) pss_never pss_nil)
      (pss_cons (ps_if (pt_cmpR op_ne (pv 3) pe_str (nomark _)) (pss_one (ps_ret (pe_tup (StX.pa_star (pv 1) (pa_cons (pv 2) pa_nil))))) pss_nil)
      (pss_cons (ps_asg (pv 1) (pg_tup (by rfl) (pgs_cons (pg_name (i := 4) nd rfl (Or.inl rfl) (Or.inr rfl)) (pgs_cons (pg_name (i := 3) nd rfl (Or.inl rfl) (Or.inr rfl)) (pgs_cons (pg_name (i := 5) nd rfl (Or.inl rfl) (Or.inr rfl)) (pgs_cons (pg_name (i := 6) nd rfl (Or.inl rfl) (Or.inr rfl)) (pgs_cons (pg_name (i := 7) nd rfl (Or.inl rfl) (Or.inr rfl)) pgs_nil)))))))
      (pss_cons (ps_asg (pv 2) (pg_tup (by rfl) (pgs_cons (pg_name (i := 8) nd rfl (Or.inl rfl) (Or.inr rfl)) (pgs_cons (pg_name (i := 9) nd rfl (Or.inl rfl) (Or.inr rfl)) pgs_nil))))
      (pss_cons (ps_set (i := 10) nd rfl (Or.inl rfl) (pe_ifExp (pt_cmpR op_eq (pv 8) pe_str (nomark _)) (pv 6) (pv 7)))
      (pss_cons (ps_if (pt_cmp (pc_isN (pv 10))) (pss_one (ps_ret (pe_tup (pa_cons (pv 4) (pa_cons pe_str (pa_cons (pv 5) (pa_cons (pv 2) pa_nil))))))) pss_nil)
      (pss_one (ps_ret (pe_tup (pa_cons (pv 4) (pa_cons pe_str (pa_cons (pe_make MW.k GW hr2 (by rfl) MW.m MW.b .nil pass0 (pa_cons (pv 4) (pa_cons pe_non (pa_cons (pv 10) (pa_cons (pv 9) (pa_cons (pv 5) (pa_cons pe_non pa_nil))))))) (pa_cons pe_non pa_nil))))))))))))), ?_⟩
    obtain ⟨fa, fu, rfl, sf, df⟩ := Fate.two hs hf
    have hw2 : ∀ z : Str, decide (V.str f.word = V.str z) = decide (f.word = z) := fun z => by by_cases q : f.word = z <;> simp [q]
    cases t with
    | work _ => exact hR.elim
    | follow _ => cases hnf
    | gather n p i =>
      obtain ⟨a, rfl, e⟩ := ht
      refine asg_n ⟨_, rfl, a, _, 1, .str "gather", rfl, rfl, SqT.of e, atI_nat (j := 1) rfl, ?_⟩
      refine ⟨_, rfl, rfl, _, rfl, iteB0 (by decide +kernel) (nxt_of ?_)⟩
      refine ⟨_, rfl, rfl, _, rfl, iteB1 (by decide +kernel) ?_⟩
      refine ⟨_, rfl, a, _, rfl, .inl (SqT.of e), _, rfl, by show 5 ≤ sizeLine; decide, fun q hq => ?_⟩
      have s1 := Same.new (o := .tup [.int (n : Int), .str "gather", .int (p : Int), .int (i : Int), .ref fa]) (Same.refl H) hq
      exact k _ L _ (m.same s1) ((Stp.refl H L).tmp s1) rfl ⟨q, .ref fa, rfl, upd_same, hf.kept (Kept.of (c := c) s1)⟩
    | thn n p kd bd =>
      obtain ⟨a, vk, vb, rfl, e, dk, db⟩ := ht
      refine asg_n ⟨_, rfl, a, _, 1, .str "then", rfl, rfl, SqT.of e, atI_nat (j := 1) rfl, ?_⟩
      refine ⟨_, rfl, rfl, _, rfl, iteB0 (by decide +kernel) (nxt_of ?_)⟩
      refine ⟨_, rfl, rfl, _, rfl, iteB0 (by decide +kernel) (nxt_of ?_)⟩
      refine gasg ⟨_, rfl, a, _, rfl, SqT.of e, rfl, _, _, rfl, _, _, rfl, _, _, rfl, _, _, rfl, _, _, rfl, rfl, ?_⟩
      refine gasg ⟨_, rfl, fa, _, rfl, sf, rfl, _, _, rfl, _, _, rfl, rfl, ?_⟩
      have fin : ∀ (vs : V) (sc : Option (List PyData)), Dt K H vs (oS sc) → sc = (if f.word = "kept" then kd else bd) → tSeq (tIfS (tB (tIsN (tVar 10))) (tRet (tTup (tCons (tVar 4) (tCons (tC (.str "settle")) (tCons (tVar 5) (tCons (tVar 2) tNil)))))) tNext) (tRet (tTup (tCons (tVar 4) (tCons (tC (.str "work")) (tCons (tMake c.wk (spWork c.wk) [] E0 (tCons (tVar 4) (tCons (tC .non) (tCons (tVar 10) (tCons (tVar 9) (tCons (tVar 5) (tCons (tC .non) tNil))))))) (tCons (tC .non) tNil))))))
          { nx := fun _ H' => Q .non H', rt := Q } [some (.ref (L.ad .bk)), some (.ref a), some (.ref fa), some (.str "then"), some (.int (n : Int)), some (.int (p : Int)), some vk, some vb, some (.str f.word), some fu, some vs] H := fun vs sc dv hsc => by
        cases sc with
        | none =>
          cases dv
          refine ⟨_, rfl, _, rfl, iteT ?_⟩
          refine ⟨_, rfl, _, rfl, _, rfl, by show 4 ≤ sizeLine; decide, fun q hq => ?_⟩
          have s1 := Same.new (o := .tup [.int (n : Int), .str "settle", .int (p : Int), .ref fa]) (Same.refl H) hq
          refine k _ L _ (m.same s1) ((Stp.refl H L).tmp s1) rfl ?_
          show RMi K c _ _ (match (if f.word = "kept" then kd else bd) with | none => Mi.settle n p f | some ds => Mi.work ⟨n, .none, ds, f.arg, some p, none⟩ none)
          rw [← hsc]
          exact ⟨q, .ref fa, rfl, upd_same, hf.kept (Kept.of (c := c) s1)⟩
        | some ds =>
          have hne : vs ≠ .non := fun z => by subst z; cases dv
          refine ⟨_, rfl, _, rfl, iteB0 (decide_eq_false hne) (nxt_r ?_)⟩
          refine ⟨_, rfl, _, rfl, _, rfl, _, rfl, _, rfl, fun wk dx h1 h2 hne => ⟨wk, dx, .int (n : Int), .non, vs, fu, .int (p : Int), .non, rfl, upd_same, rfl, ?_⟩⟩
          have h1 : H wk = none := h1
          have h2 : H dx = none := h2
          have s3 : Same H (L2.upd (L2.upd (L2.upd H dx (.own wk)) wk (.ins c.wk dx [])) wk (.ins c.wk dx (workF (.int (n : Int)) .non vs fu (.int (p : Int)) .non .non))) := by
            rw [upd_upd]
            exact Same.new (Same.new (Same.refl _) h2) (by rw [upd_ne hne.symm]; exact h1)
          have hwk : (L2.upd (L2.upd (L2.upd H dx (.own wk)) wk (.ins c.wk dx [])) wk (.ins c.wk dx (workF (.int (n : Int)) .non vs fu (.int (p : Int)) .non .non))) wk = some (.ins c.wk dx (wkF n .non vs fu (.int (p : Int)) .non)) := upd_same
          generalize L2.upd (L2.upd (L2.upd H dx (.own wk)) wk (.ins c.wk dx [])) wk (.ins c.wk dx (workF (.int (n : Int)) .non vs fu (.int (p : Int)) .non .non)) = H3 at s3 hwk ⊢
          refine ⟨by show 4 ≤ sizeLine; decide, fun q hq => ?_⟩
          have s4 := Same.new (o := .tup [.int (n : Int), .str "work", .ref wk, .non]) (Same.refl H3) hq
          have s34 := s3.trans s4
          have kp := Kept.of (c := c) s34
          refine k _ L _ (m.same s34) ((Stp.refl H L).tmp s34) rfl ?_
          show RMi K c _ _ (match (if f.word = "kept" then kd else bd) with | none => Mi.settle n p f | some ds => Mi.work ⟨n, .none, ds, f.arg, some p, none⟩ none)
          rw [← hsc]
          exact ⟨q, .ref wk, .non, rfl, upd_same, ⟨wk, dx, .non, vs, fu, .int (p : Int), .non, rfl, s4 _ _ hwk, .non, dv.kept kp, df.kept kp, .int _, .non⟩, .non⟩
      refine asg_n ⟨_, rfl, rfl, _, rfl, ?_⟩
      rw [hw2]
      refine ife (fun q => ?_) (fun q => ?_)
      · exact ⟨_, rfl, fin vk kd dk (if_pos (of_decide_eq_true q)).symm⟩
      · exact ⟨_, rfl, fin vb bd db (if_neg (of_decide_eq_false q)).symm⟩
end
end My

set_option Elab.async false
set_option linter.all false
set_option maxRecDepth 100000
set_option maxHeartbeats 4000000
namespace My
open PySem L2 PyProof.Rows
/-! ### who waits for a promise, settled or not -/
def putG (M : Mach) (n : Nat) (g : Fate) (t : Tk) : Mach := if g.settled = true then pushM M t g else putTM M n t
def spPutG (K : PySem.W.Frag) (c : CC) (R : Tk → Prop) : Sp := fun vs H Q _ => ∃ (L : Ly) (M : Mach) (n : Nat) (g : Fate) (t : Tk) (vt : V), vs = [.ref (L.ad .st), .ref (L.ad .bk), .int (n : Int), vt] ∧ MR K c H L M ∧ M.fates[n]? = some g ∧ (g.settled = true → R t ∧ t.isFollow = false) ∧ RTk K c H vt t ∧ M.ticks < 1000000 ∧
  ∀ H' L', MR K c H' L' (putG M n g t) → Stp H L H' L' → Q .non H'
section
variable {P : Program} {w : World} {K : PySem.W.Frag} {mg : Str → Option Value} {pB : Heap} {c : CC}
theorem ok_putG {R : Tk → Prop} {f sA fM : Addr} {fd dM : FuncData} (F : FnDd K d_put_taker f fd) (X : MC K c) (mS : mg "SETTLED" = some (.ref sA)) (kS : CTup K sA [.str "kept", .str "broken"])
    (GM : FnOk P w K mg pB CX0 3 fM dM ["book", "taker", "fate"] (spMic K c R)) (CM : Cal K mg "micro_of" fM dM ["book", "taker", "fate"]) : FnOk P w K mg pB CX0 4 f fd ["state", "book", "number", "taker"] (spPutG K c R) := by
  refine F.ok scPutT (fun vs H Q E h => ?_) (fun cdv A outer s0 H vs Q E hr h => ?_)
  · obtain ⟨L, M, n, g, t, vt, rfl, _⟩ := h
    rfl
  · obtain ⟨L, M, n, g, t, vt, rfl, m, hg, ht0, ht, htk, k⟩ := h
    have nd := scPutT.nd
    have pO : ∀ {X : Cx} {p : Pos}, Gl X "SETTLED" → X.mg "SETTLED" = some (.ref sA) → PE X (.Name "SETTLED" p) (tC (.ref sA)) := fun hg hm => pe_glob hg hm (show RelV (.ref sA) _ from rfl)
    refine ⟨_, pss_cons (ps_set (i := 4) nd rfl (Or.inl rfl) (pe_ix ix_list (pe_fld (pv 1) (by rfl)) (pv 2) (fun _ _ => rfl)))
      (pss_one (ps_if (pt_cmpR op_in_seq (pe_ix ix_tup (pv 4) pe_int (fun _ _ => rfl)) (pO (by rfl) mS) (by rfl)) (pss_one (ps_expr (pe_bm PySem.F.plainAttrs_list PySem.F.slot_list_append PySem.F.type_list_append mt_append (pe_fld (pv 0) (by rfl)) (pa_cons (pe_call GM hr (by rfl) CM.m CM.k CM.b .nil pass0 (pa_cons (pv 1) (pa_cons (pv 3) (pa_cons (pv 4) pa_nil)))) pa_nil))))
        (pss_one (ps_if (pt_cmp (pc_din (hu_of hr) (pv 2) (pe_fld (pv 1) (by rfl))))
          (pss_one (ps_expr (pe_bm PySem.F.plainAttrs_list PySem.F.slot_list_append PySem.F.type_list_append mt_append (pe_dget (hu_of hr) (pe_fld (pv 1) (by rfl)) (pv 2) (fun _ _ => rfl)) (pa_cons (pv 3) pa_nil))))
          (pss_one (ps_dput (hu_of hr) (pe_fld (pv 1) (by rfl)) (pv 2) (pe_lst (pa_cons (pv 3) pa_nil)) (by rfl))))))), ?_⟩
    obtain ⟨fs, ef, df⟩ := m.ar.fates
    have hfa := m.atL rfl ef
    have b2 := m.ar.bd2
    obtain ⟨v, hv, dv⟩ := df.at (i := n) (d := g.d) (by rw [List.getElem?_map, hg]; rfl)
    obtain ⟨a, xs, rfl, st, hw⟩ := Fate.dI dv
    refine asg_n ⟨_, rfl, L.ad .bk, c.bk, L.bdx, _, .ref (L.ad .fates), rfl, m.atB, X.bk.c, X.bk.n _ (by decide), rfl, _, rfl, _, _, _, _, rfl, rfl, SqL.of hfa, atI_nat hv, ?_⟩
    refine ⟨_, rfl, _, _, _, _, rfl, rfl, st, atI_nat (j := 0) hw, sA, _, rfl, .inr (kS.at H), rfl, rfl, _, rfl, ?_⟩
    rw [if_neg (by decide), in_settled]
    cases hs : g.settled with
    | true =>
      refine iteT ?_
      obtain ⟨hR, hnf⟩ := ht0 hs
      obtain ⟨mv, hm, pm⟩ := m.ar.micros
      have hmi := m.atL rfl hm
      refine ⟨_, rfl, L.ad .st, c.st, L.dx, _, .ref (L.ad .micros), rfl, m.atS, X.st.c, X.st.n _ (by decide), rfl, .inl ⟨rfl, _, SqL.of hmi⟩, ?_⟩
      refine ⟨_, rfl, _, rfl, _, rfl, L, M, t, g, vt, _, rfl, m, ht, hs, dv, hnf, hR, htk, fun H3 L3 v m3 s3 ea hv => ?_⟩
      obtain ⟨mv3, hm3, pm3⟩ := m3.ar.micros
      have hmi3 := m3.atL rfl hm3
      rw [ea] at hmi3
      have b3 := m3.ar.bd
      have tk3 : (microM M t g).1.ticks = M.ticks := by unfold microM; cases t <;> rfl
      refine ⟨_, _, _, rfl, rfl, hmi3, by rw [Paired.length pm3, sizeLine_eq]; omega, ?_⟩
      have m4 := m3.microsS 1 (mv3 ++ [v]) ((microM M t g).1.micros ++ [(microM M t g).2]) (Paired.snoc hv pm3) (by rw [List.length_append]; show _ + 1 ≤ _; omega)
      have s4 := s3.put m3.cr (m3.ar.fx .micros rfl) (o := .lst (mv3 ++ [v]))
      rw [ea] at m4 s4
      exact k _ _ (by rw [show putG M n g t = pushM M t g from if_pos hs]; exact m4) s4
    | false =>
    refine iteF ?_
    have k : ∀ H' L', MR K c H' L' (putTM M n t) → Stp H L H' L' → Q .non H' := fun H' L' m' s' => k H' L' (by rw [show putG M n g t = putTM M n t from if_neg (by rw [hs]; decide)]; exact m') s'
    have hta := m.atL rfl m.ar.takers
    have gt := DGet.k (k := .inl (n : Int)) hta
    rw [val_mk] at gt
    refine ⟨_, rfl, _, rfl, L.ad .bk, c.bk, L.bdx, _, .ref (L.ad .takers), rfl, m.atB, X.bk.c, X.bk.n _ (by decide), rfl, L.ad .takers, _, rfl, gt, _, rfl, ?_⟩
    cases hq : lk M.takers (.inl (n : Int)) with
    | some ts =>
      refine iteT ?_
      obtain ⟨lv, vs, ev, pv', ll⟩ := m.ar.tls (.inl (n : Int)) ts hq
      have hvs : H (L.ad (.tl (.inl (n : Int)))) = some (.lst vs) := by rw [m.cr.at_ _ lv, ev]
      have gt2 : DGet H (L.ad .takers) (.int (n : Int)) (some (.ref (L.ad (.tl (.inl (n : Int)))))) := by
        rw [hq] at gt
        exact gt
      refine ⟨_, rfl, L.ad .bk, c.bk, L.bdx, _, .ref (L.ad .takers), rfl, m.atB, X.bk.c, X.bk.n _ (by decide), rfl, _, rfl, L.ad .takers, _, rfl, gt2, .inl ⟨rfl, _, SqL.of hvs⟩, _, rfl, _, _, _, rfl, rfl, hvs, by rw [Paired.length pv', sizeLine_eq]; omega, ?_⟩
      have m2 := m.tlS 1 (.inl (n : Int)) (vs ++ [vt]) ts (ts ++ [t]) hq (Paired.snoc ht pv') (by rw [List.length_append]; show _ + 1 ≤ _; omega)
      have s2 := (Stp.refl H L).put m.cr lv (o := .lst (vs ++ [vt]))
      have e : ({ M with takers := pt M.takers (.inl (n : Int)) (ts ++ [t]), ticks := M.ticks + 1 } : Mach) = putTM M n t := by unfold putTM putTk; rw [hq]; rfl
      rw [e] at m2
      exact k _ _ m2 s2
    | none =>
      refine iteF ?_
      refine ⟨_, rfl, by show 1 ≤ sizeLine; decide, fun p hp => ?_⟩
      have s1 := Same.new (o := .lst [vt]) (Same.refl H) hp
      have eT : (L2.upd H p (.lst [vt])) (L.ad .takers) = some (.dK (kvD (vL L) M.takers)) := s1 _ _ hta
      refine ⟨_, rfl, L.ad .bk, c.bk, L.bdx, _, .ref (L.ad .takers), rfl, s1 _ _ m.atB, X.bk.c, X.bk.n _ (by decide), rfl, _, rfl, L.ad .takers, _, rfl, DPut.k (k := .inl (n : Int)) eT (by rw [len_mk, sizeLine_eq]; omega), ?_⟩
      have e1 : putK (kvD (vL L) M.takers) (.inl (n : Int)) (.ref p) = kvD (vL (L.new (.tl (.inl (n : Int))) p (.lst [vt]))) (pt M.takers (.inl (n : Int)) [t]) := by
        rw [← vL_new (p := p) (o := .lst [vt]) hq, ← put_mk]
        congr 1
        show V.ref p = V.ref (if Tag.tl (.inl (n : Int)) = Tag.tl (.inl (n : Int)) then p else _)
        rw [if_pos rfl]
      rw [e1]
      have m2 := m.takersN (k := .inl (n : Int)) hp hq ht (by omega)
      have s2 : Stp H L _ _ := ((Stp.refl H L).new (t := .tl (.inl (n : Int))) (o := .lst [vt]) hp (by intro z; cases z) (by intro z; cases z)).put (t := .takers) (o := .dK (kvD (vL (L.new (.tl (.inl (n : Int))) p (.lst [vt]))) (pt M.takers (.inl (n : Int)) [t]))) (m.cr.new hp nf_l) (.inr (m.ar.fx .takers rfl))
      have e : ({ M with takers := pt M.takers (.inl (n : Int)) [t], ticks := M.ticks + 1 } : Mach) = putTM M n t := by unfold putTM putTk; rw [hq]; rfl
      rw [e] at m2
      exact k _ _ m2 s2
theorem FnOk.imp {CX : CXT} {k : Nat} {f : Addr} {fd : FuncData} {ps : List Str} {sp sp' : Sp} (F : FnOk P w K mg pB CX k f fd ps sp) (h : ∀ vs H Q E, sp' vs H Q E → sp vs H Q E) : FnOk P w K mg pB CX k f fd ps sp' :=
  ⟨fun vs H Q E z => F.len vs H Q E (h _ _ _ _ z), fun A outer s H args us vs Q E hr e0 hb r z => F.run A outer s H args us vs Q E hr e0 hb r (h _ _ _ _ z)⟩
theorem putT_of {R : Tk → Prop} {f : Addr} {fd : FuncData} (F : FnOk P w K mg pB CX0 4 f fd ["state", "book", "number", "taker"] (spPutG K c R)) : FnOk P w K mg pB CX0 4 f fd ["state", "book", "number", "taker"] (spPutT K c) :=
  FnOk.imp F fun vs H Q E ⟨L, M, n, g, t, vt, e, m, hg, hs, ht, htk, k⟩ => ⟨L, M, n, g, t, vt, e, m, hg, (fun z => by rw [hs] at z; cases z), ht, htk, fun H' L' m' s' => k H' L' (by rw [show putG M n g t = putTM M n t from if_neg (by rw [hs]; decide)] at m'; exact m') s'⟩
end
end My

set_option Elab.async false
set_option linter.all false
set_option maxRecDepth 100000
set_option maxHeartbeats 4000000
namespace My
open PySem L2 PyProof.Rows
/-! ### echo, then -/
def actEcho : ActR := fun M t d M' r => d = .tuple [.str "echo"] ∧ M' = tellM M [.str "said", t] ∧ r = .none
def numM (M : Mach) : Mach := { M with numbers := M.numbers + 1 }
def thenM (M : Mach) (n : Nat) (made : Str) (k b : Option (List PyData)) (g : Fate) : Mach := putG (takeM (makeP (numM M) made) n g) n g (.thn M.numbers M.fates.length k b)
def actThen (R : Tk → Prop) : ActR := fun M _ d M' r => ∃ (x made : Str) (k b : Option (List PyData)) (n : Nat) (g : Fate), d = .tuple [.str "then", .str x, .str made, oS k, oS b] ∧ lk M.named (.inr x) = some n ∧ M.fates[n]? = some g ∧ (g.settled = true → R (.thn M.numbers M.fates.length k b)) ∧ M' = thenM M n made k b g ∧ r = .none
theorem takeM_ge (M : Mach) (n : Nat) (f : Fate) : M.ticks ≤ (takeM M n f).ticks := by
  unfold takeM
  split
  · exact Nat.le_refl _
  · have := (lateM_fates M n f).2.2
    simp only
    omega
theorem putG_ticks (M : Mach) (n : Nat) (g : Fate) (t : Tk) : (putG M n g t).ticks = M.ticks + 1 := by
  unfold putG
  split
  · unfold pushM microM
    cases t <;> rfl
  · rfl
def spNum (K : PySem.W.Frag) (c : CC) : Sp := fun vs H Q _ => ∃ (L : Ly) (M : Mach), vs = [.ref (L.ad .st)] ∧ MR K c H L M ∧ ∀ H' L', MR K c H' L' (numM M) → Stp H L H' L' → Q (.int (M.numbers : Int)) H'
section
variable {P : Program} {w : World} {K : PySem.W.Frag} {mg : Str → Option Value} {pB : Heap} {c : CC}
theorem scNum : FnScope ["state", "number"] ["state"] (d_new_number).scope := ⟨rfl, rfl, rfl, by decide +kernel, rfl, by decide +kernel, by decide +kernel⟩
theorem ok_num {f : Addr} {fd : FuncData} (F : FnDd K d_new_number f fd) (X : MC K c) : FnOk P w K mg pB CX0 1 f fd ["state"] (spNum K c) := by
  refine F.ok scNum (fun vs H Q E h => ?_) (fun cdv A outer s0 H vs Q E hr h => ?_)
  · obtain ⟨L, M, rfl, _⟩ := h
    rfl
  · obtain ⟨L, M, rfl, m, k⟩ := h
    have nd := scNum.nd
    refine ⟨_, pss_cons (ps_set (i := 1) nd rfl (Or.inl rfl) (pe_fld (pv 0) (by rfl))) (pss_cons (ps_fld (pv 0) (pe_op op_add (pv 1) pe_int) (by rfl)) (pss_one (ps_ret (pv 1)))), ?_⟩
    refine asg_n ⟨_, rfl, L.ad .st, c.st, L.dx, _, .int (M.numbers : Int), rfl, m.atS, X.st.c, X.st.n _ (by decide), rfl, ?_⟩
    refine fld_of ⟨_, rfl, _, _, rfl, rfl, _, rfl, L.ad .st, c.st, L.dx, _, rfl, m.atS, X.st.c, X.st.n _ (by decide), (show 18 < 1000 by decide), ?_⟩
    have m2 := m.stS X.cn M.picks (M.numbers + 1) M.done M.clock M.flooded M.busy
    have s2 := (Stp.refl H L).put m.cr (m.ar.fx .st rfl) (o := .ins c.st L.dx (stF L { M with numbers := M.numbers + 1 }))
    have e : L2.upd H (L.ad .st) (.ins c.st L.dx (putF "numbers" (.int ((M.numbers : Int) + 1)) (stF L M))) = L2.upd H (L.ad .st) (.ins c.st L.dx (stF L { M with numbers := M.numbers + 1 })) := by
      rw [← put_numbers]; rfl
    show tRet (tVar 1) _ _ (L2.upd H (L.ad .st) (.ins c.st L.dx (putF "numbers" (.int ((M.numbers : Int) + 1)) (stF L M))))
    rw [e]
    exact ⟨_, rfl, k _ _ m2 s2⟩
theorem scEcho : FnScope pDo pDo (d_do_echo).scope := ⟨rfl, rfl, rfl, by decide +kernel, rfl, by decide +kernel, by decide +kernel⟩
theorem ok_echo {f : Addr} {fd : FuncData} (F : FnDd K d_do_echo f fd) (X : MC K c) : FnOk P w K mg pB CX0 1 f fd pDo (spAct K c actEcho) := by
  refine F.ok scEcho (fun vs H Q E h => ?_) (fun cdv A outer s0 H vs Q E hr h => ?_)
  · obtain ⟨L, M, told, deed, M', r, vt, vd, rfl, _⟩ := h
    rfl
  · obtain ⟨L, M, told, deed, M', r, vt, vd, rfl, m, ht, hd, ⟨rfl, rfl, rfl⟩, hb, k⟩ := h
    refine ⟨_, pss_one (ps_expr (pe_bm PySem.F.plainAttrs_list PySem.F.slot_list_append PySem.F.type_list_append mt_append (pe_fld (pv 0) (by rfl)) (pa_cons (pe_tup (pa_cons (pe_fld (pv 0) (by rfl)) (pa_cons pe_str (pa_cons (pv 1) pa_nil)))) pa_nil))), ?_⟩
    obtain ⟨evs, ee, de⟩ := m.ar.events
    have hev := m.atL rfl ee
    have b1 := m.ar.bd
    have tk : M.ticks + 1 < 1000000 := hb
    refine ⟨_, rfl, L.ad .st, c.st, L.dx, _, .ref (L.ad .events), rfl, m.atS, X.st.c, X.st.n _ (by decide), rfl, .inl ⟨rfl, _, SqL.of hev⟩, _, rfl, L.ad .st, c.st, L.dx, _, .int M.clock, rfl, m.atS, X.st.c, X.st.n _ (by decide), rfl, _, rfl, by show 3 ≤ sizeLine; decide, fun p hp => ?_⟩
    obtain ⟨m1, s1, e1⟩ := m.tell ee hp (vs := [.str "said", vt]) (ds := [.str "said", told]) (.cons (.str _) (.cons ht .nil))
    refine ⟨L.ad .events, _, _, rfl, rfl, e1, ?_, k _ _ _ m1 s1 .non⟩
    rw [de.len, sizeLine_eq]; omega
abbrev nThen : List Str := ["state", "told", "deed", "word", "name", "made", "kept", "broken", "book", "source", "number", "pledge"]
theorem scThen : FnScope nThen pDo (d_do_then).scope := ⟨rfl, rfl, rfl, by decide +kernel, rfl, by decide +kernel, by decide +kernel⟩
theorem ok_then {R : Tk → Prop} {f fO fN fM fT fP : Addr} {fd dO dN dM dT dP : FuncData} (F : FnDd K d_do_then f fd) (X : MC K c) (GO : FnOk P w K mg pB CX0 1 fO dO ["state"] (spOwn K c)) (CO : Cal K mg "own_book" fO dO ["state"])
    (GN : FnOk P w K mg pB CX0 1 fN dN ["state"] (spNum K c)) (CN : Cal K mg "new_number" fN dN ["state"]) (GM : FnOk P w K mg pB CX0 1 fM dM ["book", "name"] (spMkp K c)) (CM : Cal K mg "make_promise" fM dM ["book", "name"])
    (GT : FnOk P w K mg pB CX0 1 fT dT ["state", "book", "number"] (spTake K c)) (CT : Cal K mg "take" fT dT ["state", "book", "number"])
    (GP : FnOk P w K mg pB CX0 4 fP dP ["state", "book", "number", "taker"] (spPutG K c R)) (CP : Cal K mg "put_taker" fP dP ["state", "book", "number", "taker"]) : FnOk P w K mg pB CX0 5 f fd pDo (spAct K c (actThen R)) := by
  refine F.ok scThen (fun vs H Q E h => ?_) (fun cdv A outer s0 H vs Q E hr h => ?_)
  · obtain ⟨L, M, told, deed, M', r, vt, vd, rfl, _⟩ := h
    rfl
  · obtain ⟨L, M, told, deed, M', r, vt, vd, rfl, m, ht, hd, ⟨x, made, kd, bd, n, g, rfl, hn, hg, hR, rfl, rfl⟩, hb, k⟩ := h
    have nd := scThen.nd
    have hr1 : Room 1 _ := hr.mono (show 1 ≤ 4 by decide)
    refine ⟨_, pss_cons (ps_asg (pv 2) (pg_tup (by rfl) (pgs_cons (pg_name (i := 3) nd rfl (Or.inl rfl) (Or.inr rfl)) (pgs_cons (pg_name (i := 4) nd rfl (Or.inl rfl) (Or.inr rfl)) (pgs_cons (pg_name (i := 5) nd rfl (Or.inl rfl) (Or.inr rfl)) (pgs_cons (pg_name (i := 6) nd rfl (Or.inl rfl) (Or.inr rfl)) (pgs_cons (pg_name (i := 7) nd rfl (Or.inl rfl) (Or.inr rfl)) pgs_nil)))))))
      (pss_cons (ps_if (pt_cmp (pc_dnotin (hu_of hr) (pv 4) (pe_fld (pe_fld (pv 0) (by rfl)) (by rfl)))) (pss_one (ps_ret pe_str)) pss_nil)
      (pss_cons (ps_set (i := 8) nd rfl (Or.inl rfl) (pe_call GO hr1 (by rfl) CO.m CO.k CO.b .nil pass0 (pa_cons (pv 0) pa_nil)))
      (pss_cons (ps_set (i := 9) nd rfl (Or.inl rfl) (pe_dget (hu_of hr) (pe_fld (pv 8) (by rfl)) (pv 4) (fun _ _ => rfl)))
      (pss_cons (ps_set (i := 10) nd rfl (Or.inl rfl) (pe_call GN hr1 (by rfl) CN.m CN.k CN.b .nil pass0 (pa_cons (pv 0) pa_nil)))
      (pss_cons (ps_set (i := 11) nd rfl (Or.inl rfl) (pe_call GM hr1 (by rfl) CM.m CM.k CM.b .nil pass0 (pa_cons (pv 8) (pa_cons (pv 5) pa_nil))))
      (pss_cons (ps_expr (pe_call GT hr1 (by rfl) CT.m CT.k CT.b .nil pass0 (pa_cons (pv 0) (pa_cons (pv 8) (pa_cons (pv 9) pa_nil)))))
      (pss_cons (ps_expr (pe_call GP hr (by rfl) CP.m CP.k CP.b .nil pass0 (pa_cons (pv 0) (pa_cons (pv 8) (pa_cons (pv 9) (pa_cons (pe_tup (pa_cons (pv 10) (pa_cons pe_str (pa_cons (pv 11) (pa_cons (pv 6) (pa_cons (pv 7) pa_nil)))))) pa_nil))))))
      (pss_one (ps_ret pe_non))))))))), ?_⟩
    have b0 : (makeP (numM M) made).ticks = M.ticks + 1 := rfl
    have b1 := takeM_ge (makeP (numM M) made) n g
    have b2 : (thenM M n made kd bd g).ticks = (takeM (makeP (numM M) made) n g).ticks + 1 := putG_ticks _ _ _ _
    obtain ⟨da, dxs, rfl, sd, hds⟩ := hd.tupI
    cases hds with | cons h1 t =>
    cases h1
    cases t with | cons h2 t =>
    cases h2
    cases t with | cons h3 t =>
    cases h3
    cases t with | @cons vk _ _ _ h4 t =>
    cases t with | @cons vb _ _ _ h5 t =>
    cases t
    refine gasg ⟨_, rfl, da, _, rfl, sd, rfl, _, _, rfl, _, _, rfl, _, _, rfl, _, _, rfl, _, _, rfl, rfl, ?_⟩
    have gt := DGet.k (k := .inr x) (m.atL rfl m.ar.named)
    rw [val_mk, hn] at gt
    refine ⟨_, rfl, _, rfl, L.ad .st, c.st, L.dx, _, .ref (L.ad .bk), rfl, m.atS, X.st.c, X.st.n _ (by decide), rfl, L.ad .bk, c.bk, L.bdx, _, .ref (L.ad .named), rfl, m.atB, X.bk.c, X.bk.n _ (by decide), rfl, L.ad .named, _, rfl, gt, _, rfl, iteF (nxt_of ?_)⟩
    refine asg_n (call_of ⟨_, rfl, L, M, rfl, m, ?_⟩)
    refine asg_n ⟨_, rfl, L.ad .bk, c.bk, L.bdx, _, .ref (L.ad .named), rfl, m.atB, X.bk.c, X.bk.n _ (by decide), rfl, _, rfl, L.ad .named, _, rfl, gt, ?_⟩
    refine asg_n (call_of ⟨_, rfl, L, M, rfl, m, fun H1 L1 m1 s1 => ?_⟩)
    refine asg_n (call_of ⟨_, rfl, _, rfl, L1, numM M, made, congrArg (fun a : Addr => [V.ref a, V.str made]) s1.bk.symm, m1, (by show M.ticks < _; omega), fun H2 L2' m2 s2 => ?_⟩)
    have s02 := s1.trans s2
    have hlt : n < M.fates.length := (List.getElem?_eq_some_iff.mp hg).1
    have hg2 : (makeP (numM M) made).fates[n]? = some g := by
      show (M.fates ++ [Fate.opn])[n]? = _
      rw [List.getElem?_append_left hlt]; exact hg
    refine gdrop_of ⟨_, rfl, _, rfl, _, rfl, L2', makeP (numM M) made, n, g, ?_, m2, hg2, by omega, fun H3 L3 m3 s3 => ?_⟩
    · show [V.ref (L.ad .st), V.ref (L.ad .bk), V.int (n : Int)] = _
      rw [← s02.st, ← s02.bk]
    have s03 := s02.trans s3
    have hg3 : (takeM (makeP (numM M) made) n g).fates[n]? = some g := by rw [(takeM_fates _ _ _).1]; exact hg2
    refine gdrop_of ⟨_, rfl, _, rfl, _, rfl, _, rfl, _, rfl, _, rfl, _, rfl, by show 5 ≤ sizeLine; decide, fun p hp => ?_⟩
    have sp := Same.new (o := .tup [.int (M.numbers : Int), .str "then", .int (((numM M).fates.length : Nat) : Int), vk, vb]) (Same.refl H3) hp
    have kp := (s03.tmp sp).kept m.cr
    refine ⟨L3, takeM (makeP (numM M) made) n g, n, g, .thn M.numbers M.fates.length kd bd, .ref p, ?_, m3.same sp, hg3, (fun z => ⟨hR z, rfl⟩), ⟨p, vk, vb, rfl, upd_same, h4.kept kp, h5.kept kp⟩, by omega, fun H4 L4 m4 s4 => ?_⟩
    · show [V.ref (L.ad .st), V.ref (L.ad .bk), V.int (n : Int), V.ref p] = _
      rw [← s03.st, ← s03.bk]
    exact k H4 L4 .non m4 ((s03.tmp sp).trans s4) .non
end
end My

set_option Elab.async false
set_option linter.all false
set_option maxRecDepth 100000
set_option maxHeartbeats 4000000
namespace My
open PySem L2 PyProof.Rows
/-! ### a work ends -/
def oR : Option Str → V
  | none => .non
  | some r => .str r
def endFate (gave : PyData) : Option Str → Fate
  | none => .kept gave
  | some r => .brk (.str r)
def faultM (M : Mach) (w : Wk) : Option Str → Mach
  | none => M
  | some r => tellM M [.str "fault", .int (w.num : Int), .str r]
/-- a work with a promise settles it; a fault of one without is told -/
inductive Ends1 (R : Tk → Prop) (M : Mach) (w : Wk) (gave : PyData) (r : Option Str) : Mach → Prop
  | bare : w.pledge = none → Ends1 R M w gave r (faultM M w r)
  | settle {p : Nat} {M' : Mach} : w.pledge = some p → lk M.stories (.inl (p : Int)) = none → Settle R M p (endFate gave r) M' → Ends1 R M w gave r M'
theorem Ends1.ticks {R : Tk → Prop} {M M' : Mach} {w : Wk} {gave : PyData} {r : Option Str} (h : Ends1 R M w gave r M') : M.ticks ≤ M'.ticks := by
  cases h with
  | bare _ => cases r with
    | none => exact Nat.le_refl _
    | some r => exact Nat.le_succ _
  | settle _ _ h => exact h.ticks
def spEndw (K : PySem.W.Frag) (c : CC) (R : Tk → Prop) : Sp := fun vs H Q _ => ∃ (L : Ly) (M : Mach) (w : Wk) (gave : PyData) (r : Option Str) (M' : Mach) (vw vg : V), vs = [.ref (L.ad .st), vw, vg, oR r] ∧ MR K c H L M ∧ RWk K c H vw w ∧ Dt K H vg gave ∧ Ends1 R M w gave r M' ∧ M'.ticks < 1000000 ∧
  ∀ H' L', MR K c H' L' M' → Stp H L H' L' → Q .non H'
/-- the deeds of a work in their order, up to the first that can't be done -/
inductive FreshE (A : ActR) (told : PyData) : Mach → List PyData → Option Str → Mach → Prop
  | nil (M : Mach) : FreshE A told M [] none M
  | cons {M M1 M2 : Mach} {d : PyData} {ds : List PyData} {r : Option Str} : A M told d M1 .none → M1.ticks < 1000000 → FreshE A told M1 ds r M2 → FreshE A told M (d :: ds) r M2
  | stop {M M1 : Mach} {d : PyData} {ds : List PyData} {x : Str} : A M told d M1 (.str x) → M1.ticks < 1000000 → FreshE A told M (d :: ds) (some x) M1
theorem Fresh.e {A : ActR} {told : PyData} {M M' : Mach} {ds : List PyData} (h : Fresh A told M ds M') : FreshE A told M ds none M' := by
  induction h with
  | nil => exact .nil _
  | cons a t _ ih => exact .cons a t ih
def spFreshE (K : PySem.W.Frag) (c : CC) (A : ActR) (R : Tk → Prop) : Sp := fun vs H Q _ => ∃ (L : Ly) (M : Mach) (w : Wk) (M1 M' : Mach) (r : Option Str) (vw : V), vs = [.ref (L.ad .st), vw] ∧ MR K c H L M ∧ RWk K c H vw w ∧ FreshE A w.told M w.script r M1 ∧ Ends1 R M1 w .none r M' ∧ M'.ticks < 1000000 ∧
  ∀ H' L', MR K c H' L' M' → Stp H L H' L' → Q .non H'
section
variable {P : Program} {w : World} {K : PySem.W.Frag} {mg : Str → Option Value} {pB : Heap} {c : CC}
abbrev nEndw : List Str := ["state", "work", "gave", "reason", "pledge"]
abbrev pEndw : List Str := ["state", "work", "gave", "reason"]
theorem scEndw : FnScope nEndw pEndw (d_end).scope := ⟨rfl, rfl, rfl, by decide +kernel, rfl, by decide +kernel, by decide +kernel⟩
theorem ok_endw {R : Tk → Prop} {f fS : Addr} {fd dS : FuncData} (F : FnDd K d_end f fd) (X : MC K c) (GS : FnOk P w K mg pB CX0 4 fS dS ["state", "number", "fate"] (spSet K c R)) (CS : Cal K mg "settle" fS dS ["state", "number", "fate"]) : FnOk P w K mg pB CX0 5 f fd pEndw (spEndw K c R) := by
  refine F.ok scEndw (fun vs H Q E h => ?_) (fun cdv A outer s0 H vs Q E hr h => ?_)
  · obtain ⟨L, M, w, gave, r, M', vw, vg, rfl, _⟩ := h
    rfl
  · obtain ⟨L, M, wk, gave, r, M', vw, vg, rfl, m, hw, hg, he, ht, k⟩ := h
    have nd := scEndw.nd
    refine ⟨_, pss_cons (ps_set (i := 4) nd rfl (Or.inl rfl) (pe_fld (pv 1) (by rfl)))
      (pss_cons (ps_if (pt_cmp (pc_isN (pv 4))) (pss_cons (ps_if (pt_cmp (pc_notN (pv 3))) (pss_one (ps_expr (pe_bm PySem.F.plainAttrs_list PySem.F.slot_list_append PySem.F.type_list_append mt_append (pe_fld (pv 0) (by rfl)) (pa_cons (pe_tup (pa_cons (pe_fld (pv 0) (by rfl)) (pa_cons pe_str (pa_cons (pe_fld (pv 1) (by rfl)) (pa_cons (pv 3) pa_nil))))) pa_nil)))) pss_nil) (pss_one ps_retN)) pss_nil)
      (pss_cons (ps_if (pt_cmp (pc_din (hu_of hr) (pv 4) (pe_fld (pe_fld (pv 0) (by rfl)) (by rfl)))) pss_never pss_nil)
      (pss_one (ps_expr (pe_call GS hr (by rfl) CS.m CS.k CS.b .nil pass0 (pa_cons (pv 0) (pa_cons (pv 4) (pa_cons (pe_ifExp (pt_cmp (pc_isN (pv 3))) (pe_tup (pa_cons pe_str (pa_cons (pv 2) pa_nil))) (pe_tup (pa_cons pe_str (pa_cons (pv 3) pa_nil)))) pa_nil)))))))), ?_⟩
    obtain ⟨wa, dx, vn, vs, vt, vp, va, rfl, hwa, d1, d2, d3, d4, d5⟩ := hw
    have N : ∀ f ∈ fWork, NoAttr K c.wk f := X.wk.n
    refine asg_n ⟨_, rfl, wa, c.wk, dx, _, vp, rfl, hwa, X.wk.c, N _ (by decide), rfl, ?_⟩
    cases he with
    | bare hp =>
      rw [hp] at d4
      cases d4
      refine ⟨_, rfl, _, rfl, iteT ?_⟩
      cases r with
      | none => exact ⟨_, rfl, _, rfl, iteF (k _ _ m (Stp.refl H L))⟩
      | some x =>
        have htk : M.ticks + 1 < 1000000 := ht
        obtain ⟨evs, ee, de⟩ := m.ar.events
        have hev := m.atL rfl ee
        have b1 := m.ar.bd
        refine ⟨_, rfl, _, rfl, iteT ?_⟩
        refine ⟨_, rfl, L.ad .st, c.st, L.dx, _, .ref (L.ad .events), rfl, m.atS, X.st.c, X.st.n _ (by decide), rfl, .inl ⟨rfl, _, SqL.of hev⟩, _, rfl, L.ad .st, c.st, L.dx, _, .int M.clock, rfl, m.atS, X.st.c, X.st.n _ (by decide), rfl, _, rfl, wa, c.wk, dx, _, .int (wk.num : Int), rfl, hwa, X.wk.c, N _ (by decide), rfl, _, rfl, by show 4 ≤ sizeLine; decide, fun p hp => ?_⟩
        obtain ⟨m1, s1, e1⟩ := m.tell ee hp (vs := [.str "fault", .int (wk.num : Int), .str x]) (ds := [.str "fault", .int (wk.num : Int), .str x]) (.cons (.str _) (.cons (.int _) (.cons (.str _) .nil)))
        refine ⟨L.ad .events, _, _, rfl, rfl, e1, ?_, k _ _ m1 s1⟩
        rw [de.len, sizeLine_eq]; omega
    | @settle p _ hp hst hset =>
      rw [hp] at d4
      cases d4
      have hst' := hset.ticks
      refine ⟨_, rfl, _, rfl, iteF (nxt_of ?_)⟩
      have gt := DGet.k (k := .inl (p : Int)) (m.atL rfl m.ar.stories)
      rw [val_mk, hst] at gt
      refine ⟨_, rfl, _, rfl, L.ad .st, c.st, L.dx, _, .ref (L.ad .bk), rfl, m.atS, X.st.c, X.st.n _ (by decide), rfl, L.ad .bk, c.bk, L.bdx, _, .ref (L.ad .stories), rfl, m.atB, X.bk.c, X.bk.n _ (by decide), rfl, L.ad .stories, _, rfl, gt, _, rfl, iteF (nxt_r ?_)⟩
      refine ⟨_, rfl, _, rfl, _, rfl, _, rfl, ?_⟩
      cases r with
      | none =>
        refine iteT ⟨_, rfl, by show 2 ≤ sizeLine; decide, fun q hq => ?_⟩
        have sp := Same.new (o := .tup [.str "kept", vg]) (Same.refl H) hq
        exact ⟨L, M, M', p, .kept gave, .ref q, rfl, m.same sp, hset, rfl, Dt.new upd_same (.cons (.str _) (.cons (hg.kept (Kept.of (c := c) sp)) .nil)), ht, fun H' L' m' s' => k H' L' m' ((Stp.refl H L).tmp sp |>.trans s')⟩
      | some x =>
        refine iteF ⟨_, rfl, by show 2 ≤ sizeLine; decide, fun q hq => ?_⟩
        have sp := Same.new (o := .tup [.str "broken", .str x]) (Same.refl H) hq
        exact ⟨L, M, M', p, .brk (.str x), .ref q, rfl, m.same sp, hset, rfl, Dt.new (vs := [.str "broken", .str x]) upd_same (.cons (.str _) (.cons (.str _) .nil)), ht, fun H' L' m' s' => k H' L' m' ((Stp.refl H L).tmp sp |>.trans s')⟩
theorem ok_freshE {f pA fE : Addr} {fd dE : FuncData} {es : Array DictEntry} {nn kk : Nat} {A : ActR} {R : Tk → Prop} (F : FnDd K d_begin_fresh f fd) (X : MC K c) (T : PlainT P w K mg pB c kk A pA es nn) (hA : ∀ M told d M' r, A M told d M' r → r = .none ∨ ∃ x, r = .str x)
    (GE : FnOk P w K mg pB CX0 5 fE dE pEndw (spEndw K c R)) (CE : Cal K mg "end" fE dE pEndw) (hk : 5 ≤ kk) : FnOk P w K mg pB CX0 (kk + 1) f fd ["state", "work"] (spFreshE K c A R) := by
  refine F.ok scFresh (fun vs H Q E h => ?_) (fun cdv A0 outer s0 H vs Q E hr h => ?_)
  · obtain ⟨L, M, wk, M1, M', r, vw, rfl, _⟩ := h
    rfl
  · obtain ⟨L, M, wk, Mz, M', r, vw, rfl, m, hw, hf, he, ht, k⟩ := h
    have nd := scFresh.nd
    have hr5 : Room 5 _ := hr.mono hk
    have hw0 := hw
    refine ⟨_, PSs.nox <| pss_cons (ps_set (i := 2) nd rfl (Or.inl rfl) pe_int)
      (pss_cons (ps_for PassesOwn.never rfl (pi_tup (pe_fld (pv 1) (by rfl))) (pg_name (i := 3) nd rfl (Or.inl rfl))
        (pss_cons (ps_set (i := 4) nd rfl (Or.inl rfl) (pe_kget (pe_glob (by rfl) T.m (show RelV (.ref pA) _ from rfl)) (pe_ix ix_tup (pv 3) pe_int (fun _ _ => rfl)) ⟨rfl, rfl, rfl, rfl⟩))
        (pss_cons (ps_if (pt_cmp (pc_isN (pv 4))) pss_never pss_nil)
        (pss_cons (ps_set (i := 6) nd rfl (Or.inl rfl) (pe_cvA (Ok := fun f sp => C8.CalAt P w K mg pB kk f sp) (i := 4) (fun f sp h => h) hr rfl (Or.inl rfl) (pa_cons (pv 0) (pa_cons (pe_fld (pv 1) (by rfl)) (pa_cons (pv 3) pa_nil)))))
        (pss_cons (ps_if (pt_cmp (pc_notN (pv 6))) (pss_cons (ps_expr (pe_call GE hr5 (by rfl) CE.m CE.k CE.b .nil pass0 (pa_cons (pv 0) (pa_cons (pv 1) (pa_cons pe_non (pa_cons (pv 6) pa_nil)))))) (pss_one ps_retN)) pss_nil)
        (pss_one (ps_aug (i := 2) nd rfl (.inl rfl) pe_int ip_add)))))))
      (pss_one (ps_if (pt_cmp (pc_notN (pe_fld (pv 1) (by rfl)))) (pss_one (ps_expr (pe_call GE hr5 (by rfl) CE.m CE.k CE.b .nil pass0 (pa_cons (pv 0) (pa_cons (pv 1) (pa_cons pe_non (pa_cons pe_non pa_nil))))))) pss_nil))), ?_⟩
    obtain ⟨wa, dx, vn, vs, vt, vp, va, rfl, hwa, d1, d2, d3, d4, d5⟩ := hw
    obtain ⟨sc, xs, rfl, hsc, hds⟩ := d2.tupI
    have N : ∀ f ∈ fWork, NoAttr K c.wk f := X.wk.n
    refine asg_n ?_
    refine ⟨_, rfl, wa, c.wk, dx, _, .ref sc, rfl, hwa, X.wk.c, N _ (by decide), rfl, sc, rfl, ⟨_, hsc⟩, for_tup (xs := xs) (fun j σ H3 => (∃ (a2 : Int) (x3 x4 x6 : Option V), σ = [some (.ref (L.ad .st)), some (.ref wa), some (.int a2), x3, x4, none, x6]) ∧ ∃ L1 M1, MR K c H3 L1 M1 ∧ Stp H L H3 L1 ∧ FreshE A wk.told M1 (wk.script.drop j) r Mz) ?_ ?_ ?_ ?_⟩
    · exact ⟨⟨0, none, none, none, rfl⟩, L, M, m, Stp.refl H L, hf⟩
    · rintro j σ H3 _ ⟨_, L1, M1, m1, s1, _⟩
      exact SqT.kept hsc (s1.kept m.cr)
    · rintro j y σ H3 hy ⟨⟨a2, x3, x4, x6, rfl⟩, L1, M1, m1, s1, hf1⟩
      have kp := s1.kept m.cr
      have hj : j < wk.script.length := by rw [← hds.len]; exact (List.getElem?_eq_some_iff.mp hy).1
      rw [List.drop_eq_getElem_cons hj] at hf1
      obtain ⟨v, hv, dv⟩ := hds.at (List.getElem?_eq_getElem hj)
      rw [hy] at hv
      cases hv
      have dv := dv.kept kp
      have hwa3 := kp _ _ hwa (.inl rfl)
      cases hf1 with
      | @cons _ M2 _ _ _ _ ha ht2 hr2 =>
        obtain ⟨x, ps, fD, sp, ed, eP, cA, imp⟩ := T.act _ _ _ _ _ ha
        rw [ed] at dv
        obtain ⟨d, dxs, rfl, sd, hdd⟩ := dv.tupI
        have dv' := dv
        cases hdd with | cons q1 q2 =>
        cases q1
        refine asg_n ⟨pA, es, nn, rfl, T.kd, _, rfl, d, _, 0, _, rfl, rfl, sd, atI_nat (j := 0) rfl, x, .ref fD, .ref fD, rfl, eP, rfl, ?_⟩
        refine ⟨_, rfl, _, rfl, iteF (nxt_of ?_)⟩
        refine asg_n ⟨fD, sp, rfl, cA, _, rfl, _, rfl, wa, c.wk, dx, _, vt, rfl, hwa3, X.wk.c, N _ (by decide), rfl, _, rfl, ?_⟩
        refine imp _ _ _ _ ⟨L1, M1, wk.told, _, M2, .none, vt, .ref d, by rw [s1.st], m1, d3.kept kp, by rw [ed]; exact dv', ⟨rfl, rfl, rfl, rfl, rfl⟩, ht2, fun H' L' vr m' s' hr' => ?_⟩
        cases hr'
        refine ⟨_, rfl, _, rfl, iteF (nxt_r ?_)⟩
        exact ⟨_, rfl, _, _, rfl, rfl, ⟨_, _, _, _, rfl⟩, L', M2, m', s1.trans s', hr2⟩
      | @stop _ M2 _ _ x0 ha ht2 =>
        obtain ⟨x, ps, fD, sp, ed, eP, cA, imp⟩ := T.act _ _ _ _ _ ha
        rw [ed] at dv
        obtain ⟨d, dxs, rfl, sd, hdd⟩ := dv.tupI
        have dv' := dv
        cases hdd with | cons q1 q2 =>
        cases q1
        refine asg_n ⟨pA, es, nn, rfl, T.kd, _, rfl, d, _, 0, _, rfl, rfl, sd, atI_nat (j := 0) rfl, x, .ref fD, .ref fD, rfl, eP, rfl, ?_⟩
        refine ⟨_, rfl, _, rfl, iteF (nxt_of ?_)⟩
        refine asg_n ⟨fD, sp, rfl, cA, _, rfl, _, rfl, wa, c.wk, dx, _, vt, rfl, hwa3, X.wk.c, N _ (by decide), rfl, _, rfl, ?_⟩
        refine imp _ _ _ _ ⟨L1, M1, wk.told, _, Mz, .str x0, vt, .ref d, by rw [s1.st], m1, d3.kept kp, by rw [ed]; exact dv', ⟨rfl, rfl, rfl, rfl, rfl⟩, ht2, fun H' L' vr m' s' hr' => ?_⟩
        cases hr'
        have s2 := s1.trans s'
        refine ⟨_, rfl, _, rfl, iteT ?_⟩
        refine ⟨_, rfl, _, rfl, _, rfl, L', Mz, wk, .none, some x0, M', .ref wa, .non, ?_, m', hw0.kept (s2.kept m.cr), .non, he, ht, fun H4 L4 m4 s4 => k H4 L4 m4 (s2.trans s4)⟩
        show [V.ref (L.ad .st), V.ref wa, V.non, V.str x0] = _
        rw [← s2.st]; rfl
    · rintro σ H3 ⟨⟨a2, x3, x4, x6, rfl⟩, L1, M1, m1, s1, hf1⟩
      rw [hds.len, List.drop_length] at hf1
      cases hf1
      have hwa3 := (s1.kept m.cr) _ _ hwa (.inl rfl)
      refine ⟨_, rfl, wa, c.wk, dx, _, vp, rfl, hwa3, X.wk.c, N _ (by decide), rfl, _, rfl, ?_⟩
      have he2 := he
      cases he with
      | bare hp =>
        rw [hp] at d4
        cases d4
        exact iteF (k _ _ m1 s1)
      | settle hp _ _ =>
        rw [hp] at d4
        cases d4
        refine iteT ?_
        refine ⟨_, rfl, _, rfl, L1, _, wk, .none, none, M', .ref wa, .non, ?_, m1, hw0.kept (s1.kept m.cr), .non, he2, ht, fun H4 L4 m4 s4 => k H4 L4 m4 (s1.trans s4)⟩
        show [V.ref (L.ad .st), V.ref wa, V.non, V.non] = _
        rw [← s1.st]; rfl
end
end My

set_option Elab.async false
set_option linter.all false
set_option maxRecDepth 100000
set_option maxHeartbeats 4000000
namespace L2
open PySem PySem.Spec PyProof.Rows My
theorem pt_never {X : Cx} {e : Expr} : PT X e (fun _ _ _ => False) := ⟨fun _ _ _ _ _ _ h => h.elim⟩
end L2
namespace My
open PySem L2 PyProof.Rows
/-! ### a work begins -/
def spBegin (K : PySem.W.Frag) (c : CC) (A : ActR) (R : Tk → Prop) : Sp := fun vs H Q _ => ∃ (L : Ly) (M : Mach) (w : Wk) (M1 M' : Mach) (r : Option Str) (vw : V), vs = [.ref (L.ad .st), vw, .non] ∧ MR K c H L M ∧ RWk K c H vw w ∧ w.around = none ∧ M.stories = [] ∧ FreshE A w.told M w.script r M1 ∧ Ends1 R M1 w .none r M' ∧ M'.ticks < 1000000 ∧
  ∀ H' L', MR K c H' L' M' → Stp H L H' L' → Q .non H'
section
variable {P : Program} {w : World} {K : PySem.W.Frag} {mg : Str → Option Value} {pB : Heap} {c : CC}
theorem scBegin : FnScope ["state", "work", "fate", "pledge", "doing"] ["state", "work", "fate"] (d_begin).scope := ⟨rfl, rfl, rfl, by decide +kernel, rfl, by decide +kernel, by decide +kernel⟩
theorem ok_begin {f fF fE : Addr} {fd dF dE : FuncData} {kF : Nat} {A : ActR} {R : Tk → Prop} (F : FnDd K d_begin f fd) (X : MC K c) (GF : FnOk P w K mg pB CX0 kF fF dF ["state", "work"] (spFreshE K c A R)) (CF : Cal K mg "begin_fresh" fF dF ["state", "work"])
    (GE : FnOk P w K mg pB CX0 5 fE dE pEndw (spEndw K c R)) (CE : Cal K mg "end" fE dE pEndw) (hk : 5 ≤ kF) : FnOk P w K mg pB CX0 (kF + 1) f fd ["state", "work", "fate"] (spBegin K c A R) := by
  refine F.ok scBegin (fun vs H Q E h => ?_) (fun cdv A0 outer s0 H vs Q E hr h => ?_)
  · obtain ⟨L, M, w, M1, M', r, vw, rfl, _⟩ := h
    rfl
  · obtain ⟨L, M, wk, Mz, M', r, vw, rfl, m, hw, har, hst, hf, he, ht, k⟩ := h
    have nd := scBegin.nd
    have hr5 : Room 5 _ := hr.mono hk
    have hw0 := hw
    refine ⟨_, pss_cons (ps_set (i := 3) nd rfl (Or.inl rfl) (pe_fld (pv 1) (by rfl)))
      (pss_one (ps_if (PW.pt (pw_and (pt_cmp (pc_notN (pv 3))) (pw_and (pt_truth (pe_fld (pe_fld (pv 0) (by rfl)) (by rfl)) (by intro _; rfl)) (pw_and1 pt_never)))) pss_never
        (pss_one (ps_if (pt_cmp (pc_notN (pv 2))) pss_never
          (pss_one (ps_if (pt_cmp (pc_notN (pe_fld (pv 1) (by rfl)))) pss_never
            (pss_one (ps_if (pt_truth (pe_fld (pv 1) (by rfl)) (by intro _; rfl)) (pss_one (ps_expr (pe_call GF hr (by rfl) CF.m CF.k CF.b .nil pass0 (pa_cons (pv 0) (pa_cons (pv 1) pa_nil)))))
              (pss_one (ps_if (pt_cmp (pc_notN (pv 3))) (pss_one (ps_expr (pe_call GE hr5 (by rfl) CE.m CE.k CE.b .nil pass0 (pa_cons (pv 0) (pa_cons (pv 1) (pa_cons pe_non (pa_cons pe_non pa_nil))))))) pss_nil)))))))))), ?_⟩
    obtain ⟨wa, dx, vn, vs, vt, vp, va, rfl, hwa, d1, d2, d3, d4, d5⟩ := hw
    obtain ⟨sc, xs, rfl, hsc, hds⟩ := d2.tupI
    have N : ∀ f ∈ fWork, NoAttr K c.wk f := X.wk.n
    rw [har] at d5
    cases d5
    have hsd := m.atL rfl m.ar.stories
    rw [hst] at hsd
    refine asg_n ⟨_, rfl, wa, c.wk, dx, _, vp, rfl, hwa, X.wk.c, N _ (by decide), rfl, ?_⟩
    have tail : ∀ {T : L2.TS} {D : Ends}, (∀ Q2 : L2.St → Hp → Prop, True) → True := fun _ => trivial
    clear tail
    -- the first test fails
    have rest : tIfS (tB (tNotN (tVar 2))) (fun _ _ _ => False) (tIfS (tB (tNotN (tFld K (tVar 1) "around"))) (fun _ _ _ => False) (tIfS (fun σ H Q => tFld K (tVar 1) "script" σ H fun x H' => ∃ k, TruV K x H' k ∧ Q k H') (tDrop (tCall (spFreshE K c A R) [] E0 (tCons (tVar 0) (tCons (tVar 1) tNil))))
        (tIfS (tB (tNotN (tVar 3))) (tDrop (tCall (spEndw K c R) [] E0 (tCons (tVar 0) (tCons (tVar 1) (tCons (tC .non) (tCons (tC .non) tNil)))))) tNext))) { nx := fun _ H' => Q .non H', rt := Q } [some (.ref (L.ad .st)), some (.ref wa), some .non, some vp, none] H := by
      refine ⟨_, rfl, _, rfl, iteF ?_⟩
      refine ⟨_, rfl, wa, c.wk, dx, _, .non, rfl, hwa, X.wk.c, N _ (by decide), rfl, _, rfl, iteF ?_⟩
      refine ⟨_, rfl, wa, c.wk, dx, _, .ref sc, rfl, hwa, X.wk.c, N _ (by decide), rfl, _, .inr (.inl ⟨xs, hsc, rfl⟩), ?_⟩
      cases hxs : xs with
      | cons y ys =>
        refine iteT ?_
        exact ⟨_, rfl, _, rfl, L, M, wk, Mz, M', r, .ref wa, rfl, m, hw0, hf, he, ht, k⟩
      | nil =>
        refine iteF ?_
        have hsc0 : wk.script = [] := by
          have := hds.len
          rw [hxs] at this
          exact List.eq_nil_of_length_eq_zero this.symm
        rw [hsc0] at hf
        cases hf
        have he2 := he
        cases he with
        | bare hp =>
          rw [hp] at d4
          cases d4
          exact ⟨_, rfl, _, rfl, iteF (k _ _ m (Stp.refl H L))⟩
        | settle hp _ _ =>
          rw [hp] at d4
          cases d4
          refine ⟨_, rfl, _, rfl, iteT ?_⟩
          exact ⟨_, rfl, _, rfl, L, M, wk, .none, none, M', .ref wa, .non, rfl, m, hw0, .non, he2, ht, k⟩
    cases hvp : decide (vp = V.non) with
    | true => exact ⟨_, rfl, _, rfl, by rw [hvp]; exact iteF rest⟩
    | false =>
      refine ⟨_, rfl, _, rfl, ?_⟩
      rw [hvp]
      refine iteT ?_
      exact ⟨_, rfl, L.ad .st, c.st, L.dx, _, .ref (L.ad .bk), rfl, m.atS, X.st.c, X.st.n _ (by decide), rfl, L.ad .bk, c.bk, L.bdx, _, .ref (L.ad .stories), rfl, m.atB, X.bk.c, X.bk.n _ (by decide), rfl, false, .inr (.inr ⟨[], hsd, rfl⟩), iteF rest⟩
end
end My

set_option Elab.async false
set_option linter.all false
set_option maxRecDepth 100000
set_option maxHeartbeats 4000000
namespace My
open PySem L2 PyProof.Rows
/-! ### what is to be done at once is done -/
def Mi.num : Mi → Nat
  | .work w _ => w.num
  | .settle n _ _ => n
  | .gather n _ _ _ => n
def floodM (M : Mach) : Mach := if M.micros.isEmpty = false ∧ M.flooded = false then { tellM M [.str "flood", .int (M.micros.length : Int)] with flooded := true } else M
def takeMi (M : Mach) (t : Mi) (rest : List Mi) : Mach := tellM { M with micros := rest, done := M.done + 1 } [.str "micro", .int (t.num : Int)]
inductive Mic1 (BW : Mach → Wk → Option Fate → Mach → Prop) (R : Tk → Prop) (GA : Mach → Nat → Nat → Fate → Mach → Prop) (M : Mach) : Mi → Mach → Prop
  | work {w : Wk} {f : Option Fate} {M' : Mach} : BW M w f M' → Mic1 BW R GA M (.work w f) M'
  | settle {n p : Nat} {f : Fate} {M' : Mach} : Settle R M p f M' → f.settled = true → Mic1 BW R GA M (.settle n p f) M'
  | gather {n p i : Nat} {f : Fate} {M' : Mach} : GA M p i f M' → Mic1 BW R GA M (.gather n p i f) M'
inductive Micros (S : Mach → Mi → Mach → Prop) : Nat → Mach → Mach → Prop
  | stop {M : Mach} : (M.micros = [] ∨ M.flood ≤ M.done) → M.ticks + 1 < 1000000 → Micros S 0 M (floodM M)
  | more {k : Nat} {M M1 M' : Mach} {t : Mi} {rest : List Mi} : M.micros = t :: rest → M.done < M.flood → M.ticks + 1 < 1000000 → S (takeMi M t rest) t M1 → M1.ticks < 1000000 → Micros S k M1 M' → Micros S (k + 1) M M'
def spBegB (K : PySem.W.Frag) (c : CC) (BW : Mach → Wk → Option Fate → Mach → Prop) : Sp := fun vs H Q _ => ∃ (L : Ly) (M M' : Mach) (w : Wk) (f : Option Fate) (vw vf : V), vs = [.ref (L.ad .st), vw, vf] ∧ MR K c H L M ∧ RWk K c H vw w ∧ Dt K H vf (oF f) ∧ BW M w f M' ∧ M'.ticks < 1000000 ∧
  ∀ H' L', MR K c H' L' M' → Stp H L H' L' → Q .non H'
def spGat (K : PySem.W.Frag) (c : CC) (GA : Mach → Nat → Nat → Fate → Mach → Prop) : Sp := fun vs H Q _ => ∃ (L : Ly) (M M' : Mach) (p i : Nat) (f : Fate) (vf : V), vs = [.ref (L.ad .st), .int (p : Int), .int (i : Int), vf] ∧ MR K c H L M ∧ Dt K H vf f.d ∧ GA M p i f M' ∧ M'.ticks < 1000000 ∧
  ∀ H' L', MR K c H' L' M' → Stp H L H' L' → Q .non H'
def spDm (K : PySem.W.Frag) (c : CC) (S : Mach → Mi → Mach → Prop) : Sp := fun vs H Q _ => ∃ (L : Ly) (M M' : Mach) (k : Nat), vs = [.ref (L.ad .st)] ∧ MR K c H L M ∧ Micros S k M M' ∧ ∀ H' L', MR K c H' L' M' → Stp H L H' L' → Q .non H'
section
variable {P : Program} {w : World} {K : PySem.W.Frag} {mg : Str → Option Value} {pB : Heap} {c : CC}
theorem fldA_of {K : PySem.W.Frag} {ta tv : TE} {rd : V → V → Hp → VK → Prop} {f : Str} {b : TS} {D : Ends} {σ : L2.St} {H : Hp} (h : ta σ H fun x H1 => ∃ a C dx fs v, x = .ref a ∧ H1 a = some (.ins C dx fs) ∧ Cls K C ∧ NoAttr K C f ∧ List.lookup f fs = some v ∧
    tv σ H1 fun y H2 => rd v y H2 fun z H3 => ∃ dx' fs', H3 a = some (.ins C dx' fs') ∧ fs'.length < 1000 ∧ b D σ (L2.upd H3 a (.ins C dx' (putF f z fs')))) : tSeq (sFldAug K ta tv rd f) b D σ H := h
theorem MR.flood_eq {H H' : Hp} {L L' : Ly} {M M' : Mach} (m : MR K c H L M) (m' : MR K c H' L' M') (s : Stp H L H' L') : M'.flood = M.flood := by
  obtain ⟨vp, e, _⟩ := m.ar.su
  obtain ⟨vp', e', _⟩ := m'.ar.su
  rw [s.su] at e'
  have k := (s.kept m.cr) _ _ e (.inr rfl)
  rw [e'] at k
  have k1 := Option.some.inj k
  have k2 := (HO.ins.inj k1).2.2
  have k3 := (List.cons.inj (List.cons.inj k2).2).1
  have k4 := V.int.inj (Prod.mk.inj k3).2
  omega
theorem Mic1.word {M M' : Mach} {BW : Mach → Wk → Option Fate → Mach → Prop} {R : Tk → Prop} {GA : Mach → Nat → Nat → Fate → Mach → Prop} {H : Hp} {v : V} {t : Mi} (h : RMi K c H v t) : ∃ a xs y, v = .ref a ∧ H a = some (.tup (.int (t.num : Int) :: .str y :: xs)) := by
  cases t with
  | work w f => obtain ⟨a, vw, vf, e, h1, _⟩ := h; exact ⟨a, _, _, e, h1⟩
  | settle n p f => obtain ⟨a, vf, e, h1, _⟩ := h; exact ⟨a, _, _, e, h1⟩
  | gather n p i f => obtain ⟨a, vf, e, h1, _⟩ := h; exact ⟨a, _, _, e, h1⟩
abbrev nDm : List Str := ["state", "micros", "flood", "micro", "kind"]
theorem scDm : FnScope nDm ["state"] (d_do_micros).scope := ⟨rfl, rfl, rfl, by decide +kernel, rfl, by decide +kernel, by decide +kernel⟩
theorem ok_dm {f fB fS fG : Addr} {fd dB dS dG : FuncData} {kB kS kG kk : Nat} {BW : Mach → Wk → Option Fate → Mach → Prop} {R : Tk → Prop} {GA : Mach → Nat → Nat → Fate → Mach → Prop} (F : FnDd K d_do_micros f fd) (X : MC K c)
    (GB : FnOk P w K mg pB CX0 kB fB dB ["state", "work", "fate"] (spBegB K c BW)) (CB : Cal K mg "begin" fB dB ["state", "work", "fate"])
    (GS : FnOk P w K mg pB CX0 kS fS dS ["state", "number", "fate"] (spSet K c R)) (CS : Cal K mg "settle" fS dS ["state", "number", "fate"])
    (GG : FnOk P w K mg pB CX0 kG fG dG ["state", "pledge", "place", "fate"] (spGat K c GA)) (CG : Cal K mg "gather_fate" fG dG ["state", "pledge", "place", "fate"])
    (hB : kB ≤ kk) (hS : kS ≤ kk) (hG : kG ≤ kk) (h1k : 1 ≤ kk) (mLen : mg "len" = none) : FnOk P w K mg pB CX0 (kk + 1) f fd ["state"] (spDm K c (Mic1 BW R GA)) := by
  refine F.ok scDm (fun vs H Q E h => ?_) (fun cdv A outer s0 H vs Q E hr h => ?_)
  · obtain ⟨L, M, M', k, rfl, _⟩ := h
    rfl
  · obtain ⟨L, M, M', k0, rfl, m, hm, k⟩ := h
    have nd := scDm.nd
    have N : ∀ f ∈ fState, NoAttr K c.st f := X.st.n
    obtain ⟨vp, hsu⟩ := m.atSu
    refine ⟨_, PSs.nox (
      pss_cons (ps_set (i := 1) nd rfl (Or.inl rfl) (pe_fld (pv 0) (by rfl))) (
      pss_cons (ps_set (i := 2) nd rfl (Or.inl rfl) (pe_fld (pe_fld (pv 0) (by rfl)) (by rfl))) (
      pss_cons (ps_while PassesOwn.never (PW.pt (pw_and (pt_truth (pv 1) (by intro _; rfl)) (pw_and1 (pt_cmpR op_lt (pe_fld (pv 0) (by rfl)) (pv 2) (nomark _))))) (
          pss_cons (ps_set (i := 3) nd rfl (Or.inl rfl) (pe_bm PySem.F.plainAttrs_list PySem.F.slot_list_pop PySem.F.type_list_pop mt_popAt (pv 1) (pa_cons pe_int pa_nil))) (
          pss_cons (ps_fldaug (pv 0) pe_int in_add) (
          pss_cons (ps_expr (pe_bm PySem.F.plainAttrs_list PySem.F.slot_list_append PySem.F.type_list_append mt_append (pe_fld (pv 0) (by rfl)) (pa_cons (pe_tup (pa_cons (pe_fld (pv 0) (by rfl)) (pa_cons pe_str (pa_cons (pe_ix ix_tup (pv 3) pe_int (fun _ _ => rfl)) pa_nil)))) pa_nil))) (
          pss_cons (ps_set (i := 4) nd rfl (Or.inl rfl) (pe_ix ix_tup (pv 3) pe_int (fun _ _ => rfl))) (
          pss_one (ps_if (pt_cmpR op_eq (pv 4) pe_str (nomark _)) (
              pss_one (ps_expr (pe_call GB (hr.mono hB) (by rfl) CB.m CB.k CB.b .nil pass0 (pa_cons (pv 0) (pa_cons (pe_ix ix_tup (pv 3) pe_int (fun _ _ => rfl)) (pa_cons (pe_ix ix_tup (pv 3) pe_int (fun _ _ => rfl)) pa_nil)))))) (
              pss_one (ps_if (pt_cmpR op_eq (pv 4) pe_str (nomark _)) (
                  pss_one (ps_expr (pe_call GS (hr.mono hS) (by rfl) CS.m CS.k CS.b .nil pass0 (pa_cons (pv 0) (pa_cons (pe_ix ix_tup (pv 3) pe_int (fun _ _ => rfl)) (pa_cons (pe_ix ix_tup (pv 3) pe_int (fun _ _ => rfl)) pa_nil)))))) (
                  pss_one (ps_expr (pe_call GG (hr.mono hG) (by rfl) CG.m CG.k CG.b .nil pass0 (pa_cons (pv 0) (pa_cons (pe_ix ix_tup (pv 3) pe_int (fun _ _ => rfl)) (pa_cons (pe_ix ix_tup (pv 3) pe_int (fun _ _ => rfl)) (pa_cons (pe_ix ix_tup (pv 3) pe_int (fun _ _ => rfl)) pa_nil)))))))))))))))) (
      pss_one (ps_if (PW.pt (pw_and (pt_truth (pv 1) (by intro _; rfl)) (pw_and1 (pt_not (pt_val (pe_fld (pv 0) (by rfl))))))) (
          pss_cons (ps_expr (pe_bm PySem.F.plainAttrs_list PySem.F.slot_list_append PySem.F.type_list_append mt_append (pe_fld (pv 0) (by rfl)) (pa_cons (pe_tup (pa_cons (pe_fld (pv 0) (by rfl)) (pa_cons pe_str (pa_cons (pe_callB call_len_seq (by rfl) mLen PySem.boot_len (pa_cons (pv 1) pa_nil)) pa_nil)))) pa_nil))) (
          pss_one (ps_fld (pv 0) pe_bl (by rfl)))) pss_nil))))), ?_⟩
    refine asg_n ⟨_, rfl, L.ad .st, c.st, L.dx, _, .ref (L.ad .micros), rfl, m.atS, X.st.c, N _ (by decide), rfl, ?_⟩
    refine asg_n ⟨_, rfl, L.ad .st, c.st, L.dx, _, .ref L.su, rfl, m.atS, X.st.c, N _ (by decide), rfl, L.su, c.su, L.sdx, _, .int (M.flood : Int), rfl, hsu, X.su.c, X.su.n _ (by decide), rfl, ?_⟩
    refine gmid_of (fun σ' H' => ∃ (L1 : Ly) (M1 : Mach) (x3 x4 : Option V), σ' = [some (.ref (L.ad .st)), some (.ref (L.ad .micros)), some (.int (M.flood : Int)), x3, x4] ∧ MR K c H' L1 M1 ∧ Stp H L H' L1 ∧ floodM M1 = M' ∧ M1.ticks + 1 < 1000000) (fun N1 hN => ?_) ?_
    · refine gwhile (m0 := k0) (fun i σ' H' => ∃ (L1 : Ly) (M1 : Mach) (x3 x4 : Option V), σ' = [some (.ref (L.ad .st)), some (.ref (L.ad .micros)), some (.int (M.flood : Int)), x3, x4] ∧ MR K c H' L1 M1 ∧ Stp H L H' L1 ∧ Micros (Mic1 BW R GA) i M1 M')
        (fun i σ' H' b H1 => H1 = H' ∧ b = decide (0 < i)) ⟨L, M, none, none, rfl, m, Stp.refl H L, hm⟩ ?_ ?_ ?_
      · rintro i σ' H' ⟨L1, M1, x3, x4, rfl, m1, s1, h1⟩ C hC
        obtain ⟨vm, em, im, _⟩ := m1.atMi
        rw [s1.mi] at em
        have hfl := m.flood_eq m1 s1
        refine ⟨_, rfl, _, .inl ⟨_, SqL.of em, rfl⟩, ?_⟩
        rw [im]
        cases h1 with
        | stop hs _ =>
          cases he : M1.micros.isEmpty with
          | true => exact iteB0 rfl (hC _ _ ⟨rfl, rfl⟩)
          | false =>
            refine iteB1 rfl ?_
            have hs := hs.resolve_left (fun z => by rw [z] at he; cases he)
            refine ⟨_, rfl, L1.ad .st, c.st, L1.dx, _, .int (M1.done : Int), by rw [s1.st], m1.atS, X.st.c, N _ (by decide), rfl, _, rfl, _, _, rfl, rfl, _, rfl, ?_⟩
            rw [decide_eq_false (show ¬ ((M1.done : Int) < (M.flood : Int)) by omega)]
            exact hC _ _ ⟨rfl, rfl⟩
        | more h2 h3 _ _ _ _ =>
          rw [h2]
          refine iteB1 rfl ?_
          refine ⟨_, rfl, L1.ad .st, c.st, L1.dx, _, .int (M1.done : Int), by rw [s1.st], m1.atS, X.st.c, N _ (by decide), rfl, _, rfl, _, _, rfl, rfl, _, rfl, ?_⟩
          rw [decide_eq_true (show (M1.done : Int) < (M.flood : Int) by omega)]
          exact hC _ _ ⟨rfl, (decide_eq_true (Nat.succ_pos _)).symm⟩
      · rintro i σ' H' H1 ⟨L1, M1, x3, x4, rfl, m1, s1, h1⟩ ⟨rfl, hb⟩
        cases h1 with
        | stop _ _ => cases hb
        | @more i' _ M2 _ t rest h2 h3 ht0 h4 ht h5 =>
        obtain ⟨vs, em, pm⟩ := m1.ar.micros
        rw [h2] at pm
        cases pm with
        | @cons v _ vr _ hv pr =>
        have hmi := m1.atL rfl em
        rw [s1.mi] at hmi
        have b1 := m1.ar.bd
        obtain ⟨a, xs, y, rfl, ea⟩ := Mic1.word (M := M1) (M' := M1) (BW := BW) (R := R) (GA := GA) hv
        refine asg_n ⟨_, rfl, .inl ⟨rfl, _, SqL.of hmi⟩, L.ad .micros, _, 0, 0, .ref a, rfl, rfl, hmi, by decide, by decide, seq0 _, rfl, ?_⟩
        have m2 := m1.microsS 0 vr rest pr (by rw [h2] at b1; simp only [List.length_cons] at b1; omega)
        have s2 := s1.put m1.cr (m1.ar.fx .micros rfl) (o := .lst vr)
        rw [s1.mi] at m2 s2
        show tSeq _ _ _ _ (L2.upd H1 (L.ad .micros) (.lst vr))
        obtain ⟨Lb, m2, s2, hLb⟩ : ∃ Lb, MR K c (L2.upd H1 (L.ad .micros) (.lst vr)) Lb { M1 with micros := rest } ∧ Stp H L (L2.upd H1 (L.ad .micros) (.lst vr)) Lb ∧ Lb.ad .st = L1.ad .st := ⟨_, m2, s2, rfl⟩
        have hv2 := (s2.kept m.cr)
        have kp1 := ((Stp.refl H1 L1).put m1.cr (m1.ar.fx .micros rfl) (o := .lst vr)).kept m1.cr
        rw [s1.mi] at kp1
        have hv := hv.kept kp1
        clear kp1
        generalize L2.upd H1 (L.ad .micros) (.lst vr) = H2 at m2 s2 hv ⊢
        obtain ⟨a', xs', y', e', ea⟩ := Mic1.word (M := M1) (M' := M1) (BW := BW) (R := R) (GA := GA) hv
        cases e'
        show tSeq _ _ _ [some (.ref (L.ad .st)), some (.ref (L.ad .micros)), some (.int (M.flood : Int)), some (.ref a), x4] H2
        refine fldA_of ⟨_, rfl, Lb.ad .st, c.st, Lb.dx, _, .int (M1.done : Int), by rw [s2.st], m2.atS, X.st.c, N _ (by decide), rfl, _, _, rfl, rfl, _, _, m2.atS, (show 18 < 1000 by decide), ?_⟩
        have m3 := m2.stS X.cn M1.picks M1.numbers (M1.done + 1) M1.clock M1.flooded M1.busy
        have s3 := s2.put m2.cr (m2.ar.fx .st rfl) (o := .ins c.st Lb.dx (stF Lb { M1 with micros := rest, done := M1.done + 1 }))
        refine hp_of (show _ = L2.upd H2 (Lb.ad .st) (.ins c.st Lb.dx (stF Lb { M1 with micros := rest, done := M1.done + 1 })) from by rw [← put_done Lb { M1 with micros := rest } (M1.done + 1)]; rfl) ?_
        have kp3 := (Stp.put (Stp.refl H2 Lb) m2.cr (m2.ar.fx .st rfl) (o := .ins c.st Lb.dx (stF Lb { M1 with micros := rest, done := M1.done + 1 }))).kept m2.cr
        obtain ⟨Lc, m3, s3⟩ : ∃ Lc, MR K c (L2.upd H2 (Lb.ad .st) (.ins c.st Lb.dx (stF Lb { M1 with micros := rest, done := M1.done + 1 }))) Lc { M1 with micros := rest, done := M1.done + 1 } ∧ Stp H L (L2.upd H2 (Lb.ad .st) (.ins c.st Lb.dx (stF Lb { M1 with micros := rest, done := M1.done + 1 }))) Lc := ⟨_, m3, s3⟩
        have hv := hv.kept kp3
        have ea := kp3 _ _ ea trivial
        generalize L2.upd H2 (Lb.ad .st) (.ins c.st Lb.dx (stF Lb { M1 with micros := rest, done := M1.done + 1 })) = H3 at m3 s3 hv ea ⊢
        clear m2 s2 kp3
        obtain ⟨evs, ee, de⟩ := m3.ar.events
        have hev := m3.atL rfl ee
        have b3 := m3.ar.bd
        refine gdrop_of ⟨_, rfl, Lc.ad .st, c.st, Lc.dx, _, .ref (Lc.ad .events), by rw [s3.st], m3.atS, X.st.c, N _ (by decide), rfl, .inl ⟨rfl, _, SqL.of hev⟩, _, rfl, Lc.ad .st, c.st, Lc.dx, _, .int M1.clock, by rw [s3.st], m3.atS, X.st.c, N _ (by decide), rfl, _, rfl, a, _, 0, .int (t.num : Int), rfl, rfl, SqT.of ea, atI_nat (j := 0) rfl, by show 3 ≤ sizeLine; decide, fun p hp => ?_⟩
        obtain ⟨m4, s4, e4⟩ := m3.tell ee hp (vs := [.str "micro", .int (t.num : Int)]) (ds := [.str "micro", .int (t.num : Int)]) (.cons (.str _) (.cons (.int _) .nil))
        refine ⟨Lc.ad .events, _, _, rfl, rfl, e4, ?_, ?_⟩
        · rw [de.len, sizeLine_eq]
          have b3 : _ ∧ _ ∧ M1.events.length ≤ M1.ticks ∧ _ := b3
          show M1.events.length < _
          omega
        have hv := hv.kept (s4.kept m3.cr)
        have ea := (s4.kept m3.cr) _ _ ea trivial
        have s5a := s3.trans s4
        obtain ⟨Ld, m4, s5, heq⟩ : ∃ Ld, MR K c (L2.upd (L2.upd H3 p (.tup [.int M1.clock, .str "micro", .int (t.num : Int)])) (Lc.ad .events) (.lst (evs ++ [.ref p]))) Ld (takeMi M1 t rest) ∧ Stp H L (L2.upd (L2.upd H3 p (.tup [.int M1.clock, .str "micro", .int (t.num : Int)])) (Lc.ad .events) (.lst (evs ++ [.ref p]))) Ld ∧ True := ⟨_, m4, s5a, trivial⟩
        clear s5a
        generalize L2.upd (L2.upd H3 p (.tup [.int M1.clock, .str "micro", .int (t.num : Int)])) (Lc.ad .events) (.lst (evs ++ [.ref p])) = H4 at m4 s5 hv ea ⊢
        clear m3 s3 s4 e4 hp b3 hev de ee
        refine asg_n ⟨_, rfl, a, _, 1, .str y', rfl, rfl, SqT.of ea, atI_nat (j := 1) rfl, ?_⟩
        have fin : ∀ H' L', MR K c H' L' M2 → Stp H4 Ld H' L' → ∃ m', m' < i' + 1 ∧ ∃ (L1 : Ly) (M1 : Mach) (x3 x4 : Option V), ([some (.ref (L.ad .st)), some (.ref (L.ad .micros)), some (.int (M.flood : Int)), some (.ref a), some (.str y')] : L2.St) = [some (.ref (L.ad .st)), some (.ref (L.ad .micros)), some (.int (M.flood : Int)), x3, x4] ∧ MR K c H' L1 M1 ∧ Stp H L H' L1 ∧ Micros (Mic1 BW R GA) m' M1 M' := fun H' L' m' s' =>
          ⟨i', Nat.lt_succ_self _, L', M2, _, _, rfl, m', s5.trans s', h5⟩
        have est : (some (V.ref (L.ad .st))) = some (V.ref (Ld.ad .st)) := by rw [s5.st]
        cases t with
        | work wk fo =>
          obtain ⟨a0, vw, vf, e0, h1, h2, h3⟩ := hv
          cases e0
          rw [ea] at h1
          have h1 := HO.tup.inj (Option.some.inj h1)
          obtain ⟨hy, hx⟩ := List.cons.inj (List.cons.inj h1).2
          cases hy
          subst hx
          cases h4 with
          | work h4 =>
          refine ⟨_, rfl, rfl, _, rfl, iteB1 (by decide +kernel) ?_⟩
          exact ⟨_, rfl, _, rfl, a, _, 2, vw, rfl, rfl, SqT.of ea, atI_nat (j := 2) rfl, _, rfl, a, _, 3, vf, rfl, rfl, SqT.of ea, atI_nat (j := 3) rfl, Ld, _, M2, wk, fo, vw, vf, congrArg (fun z : Addr => [V.ref z, vw, vf]) s5.st.symm, m4, h2, h3, h4, ht, fin⟩
        | settle n p f =>
          obtain ⟨a0, vf, e0, h1, h2⟩ := hv
          cases e0
          rw [ea] at h1
          have h1 := HO.tup.inj (Option.some.inj h1)
          obtain ⟨hy, hx⟩ := List.cons.inj (List.cons.inj h1).2
          cases hy
          subst hx
          cases h4 with
          | settle h4 hs =>
          refine ⟨_, rfl, rfl, _, rfl, iteB0 (by decide +kernel) ?_⟩
          refine ⟨_, rfl, rfl, _, rfl, iteB1 (by decide +kernel) ?_⟩
          exact ⟨_, rfl, _, rfl, a, _, 2, .int (p : Int), rfl, rfl, SqT.of ea, atI_nat (j := 2) rfl, _, rfl, a, _, 3, vf, rfl, rfl, SqT.of ea, atI_nat (j := 3) rfl, Ld, _, M2, p, f, vf, congrArg (fun z : Addr => [V.ref z, V.int (p : Int), vf]) s5.st.symm, m4, h4, hs, h2, ht, fin⟩
        | gather n p i f =>
          obtain ⟨a0, vf, e0, h1, h2⟩ := hv
          cases e0
          rw [ea] at h1
          have h1 := HO.tup.inj (Option.some.inj h1)
          obtain ⟨hy, hx⟩ := List.cons.inj (List.cons.inj h1).2
          cases hy
          subst hx
          cases h4 with
          | gather h4 =>
          refine ⟨_, rfl, rfl, _, rfl, iteB0 (by decide +kernel) ?_⟩
          refine ⟨_, rfl, rfl, _, rfl, iteB0 (by decide +kernel) ?_⟩
          exact ⟨_, rfl, _, rfl, a, _, 2, .int (p : Int), rfl, rfl, SqT.of ea, atI_nat (j := 2) rfl, _, rfl, a, _, 3, .int (i : Int), rfl, rfl, SqT.of ea, atI_nat (j := 3) rfl, _, rfl, a, _, 4, vf, rfl, rfl, SqT.of ea, atI_nat (j := 4) rfl, Ld, _, M2, p, i, f, vf, congrArg (fun z : Addr => [V.ref z, V.int (p : Int), V.int (i : Int), vf]) s5.st.symm, m4, h2, h4, ht, fin⟩
      · rintro i σ' H' H1 ⟨L1, M1, x3, x4, rfl, m1, s1, h1⟩ ⟨rfl, hb⟩
        cases h1 with
        | more _ _ _ _ _ _ => rw [decide_eq_true (Nat.succ_pos _)] at hb; cases hb
        | stop _ ht => exact hN _ _ ⟨L1, M1, x3, x4, rfl, m1, s1, rfl, ht⟩
    · rintro σ' H' ⟨L1, M1, x3, x4, rfl, m1, s1, rfl, ht⟩
      obtain ⟨vm, em, im, lm⟩ := m1.atMi
      rw [s1.mi] at em
      refine ⟨_, rfl, _, .inl ⟨_, SqL.of em, rfl⟩, ?_⟩
      rw [im]
      have none_ : ¬ (M1.micros.isEmpty = false ∧ M1.flooded = false) → Q .non H' := fun z => k H' L1 (by rw [show floodM M1 = M1 from if_neg z]; exact m1) s1
      cases he : M1.micros.isEmpty with
      | true => exact iteB0 rfl (iteF (none_ (fun z => by rw [he] at z; cases z.1)))
      | false =>
      refine iteB1 rfl ?_
      refine ⟨_, rfl, L1.ad .st, c.st, L1.dx, _, .bl M1.flooded, by rw [s1.st], m1.atS, X.st.c, N _ (by decide), rfl, _, rfl, ?_⟩
      cases hf : M1.flooded with
      | true => exact iteF (none_ (fun z => by rw [hf] at z; cases z.2))
      | false =>
      refine iteT ?_
      have hfm : floodM M1 = { tellM M1 [.str "flood", .int (M1.micros.length : Int)] with flooded := true } := if_pos ⟨he, hf⟩
      obtain ⟨evs, ee, de⟩ := m1.ar.events
      have hev := m1.atL rfl ee
      have b1 := m1.ar.bd
      refine gdrop_of ⟨_, rfl, L1.ad .st, c.st, L1.dx, _, .ref (L1.ad .events), by rw [s1.st], m1.atS, X.st.c, N _ (by decide), rfl, .inl ⟨rfl, _, SqL.of hev⟩, _, rfl, L1.ad .st, c.st, L1.dx, _, .int M1.clock, by rw [s1.st], m1.atS, X.st.c, N _ (by decide), rfl, _, rfl, L.ad .micros, _, rfl, .inl (SqL.of em), by show 3 ≤ sizeLine; decide, fun p hp => ?_⟩
      rw [lm]
      obtain ⟨m2, s2, e2⟩ := m1.tell ee hp (vs := [.str "flood", .int (M1.micros.length : Int)]) (ds := [.str "flood", .int (M1.micros.length : Int)]) (.cons (.str _) (.cons (.int _) .nil))
      refine ⟨L1.ad .events, _, _, rfl, rfl, e2, by rw [de.len, sizeLine_eq]; omega, ?_⟩
      have s3 := s1.trans s2
      obtain ⟨Lb, m2, s3⟩ : ∃ Lb, MR K c (L2.upd (L2.upd H' p (.tup [.int M1.clock, .str "flood", .int (M1.micros.length : Int)])) (L1.ad .events) (.lst (evs ++ [.ref p]))) Lb (tellM M1 [.str "flood", .int (M1.micros.length : Int)]) ∧ Stp H L (L2.upd (L2.upd H' p (.tup [.int M1.clock, .str "flood", .int (M1.micros.length : Int)])) (L1.ad .events) (.lst (evs ++ [.ref p]))) Lb := ⟨_, m2, s3⟩
      generalize L2.upd (L2.upd H' p (.tup [.int M1.clock, .str "flood", .int (M1.micros.length : Int)])) (L1.ad .events) (.lst (evs ++ [.ref p])) = H2 at m2 s3 ⊢
      refine fldl_of ⟨_, rfl, Lb.ad .st, c.st, Lb.dx, _, by rw [s3.st], m2.atS, X.st.c, N _ (by decide), (show 18 < 1000 by decide), ?_⟩
      have m4 := m2.stS X.cn M1.picks M1.numbers M1.done M1.clock true M1.busy
      have s4 := s3.put m2.cr (m2.ar.fx .st rfl) (o := .ins c.st Lb.dx (stF Lb { tellM M1 [.str "flood", .int (M1.micros.length : Int)] with flooded := true }))
      rw [put_flooded]
      refine k _ _ ?_ s4
      rw [hfm]
      exact m4
end
end My

set_option Elab.async false
set_option linter.all false
set_option maxRecDepth 100000
set_option maxHeartbeats 4000000
namespace My
open PySem L2 PyProof.Rows
/-! ### micros, what nobody took, runs: until nothing of these is left -/
def DStep (MD : Mach → Mach → Prop) (M M1 : Mach) : Prop := ∃ Ma, ((M.micros = [] ∧ Ma = M) ∨ (M.micros ≠ [] ∧ MD M Ma)) ∧ Ma.ticks + Ma.ticks < 1000000 ∧ M1 = (if Ma.micros.isEmpty = true then untoldM Ma else Ma)
inductive DownL (MD : Mach → Mach → Prop) (ER : Mach → Bool → Mach → Prop) : Nat → Mach → Mach → Prop
  | last {M M1 : Mach} : DStep MD M M1 → M1.opened = [] → DownL MD ER 0 M M1
  | lastR {M M1 M2 : Mach} : DStep MD M M1 → M1.opened ≠ [] → ER M1 false M2 → DownL MD ER 0 M M2
  | more {n : Nat} {M M1 M2 M' : Mach} : DStep MD M M1 → M1.opened ≠ [] → ER M1 true M2 → DownL MD ER n M2 M' → DownL MD ER (n + 1) M M'
def downG (MD : Mach → Mach → Prop) (ER : Mach → Bool → Mach → Prop) : Mach → Mach → Prop := fun M M' => ∃ (n : Nat) (M1 : Mach), DownL MD ER n M M1 ∧ M' = { M1 with done := 0, flooded := false }
def spEr (K : PySem.W.Frag) (c : CC) (ER : Mach → Bool → Mach → Prop) : Sp := fun vs H Q _ => ∃ (L : Ly) (M M' : Mach) (b : Bool), vs = [.ref (L.ad .st)] ∧ MR K c H L M ∧ M.opened ≠ [] ∧ ER M b M' ∧ ∀ H' L', MR K c H' L' M' → Stp H L H' L' → Q (.bl b) H'
section
variable {P : Program} {w : World} {K : PySem.W.Frag} {mg : Str → Option Value} {pB : Heap} {c : CC}
theorem ok_downG {f fT fE fM : Addr} {fd dT dE dM : FuncData} {kE kM kk : Nat} {S : Mach → Mi → Mach → Prop} {ER : Mach → Bool → Mach → Prop} (F : FnDd K d_settle_down f fd) (X : MC K c) (GT : FnOk P w K mg pB CX0 2 fT dT ["state"] (spTU K c)) (CT : Cal K mg "tell_unhandled" fT dT ["state"])
    (GM : FnOk P w K mg pB CX0 kM fM dM ["state"] (spDm K c S)) (CM : Cal K mg "do_micros" fM dM ["state"])
    (GE : FnOk P w K mg pB CX0 kE fE dE ["state"] (spEr K c ER)) (CE : Cal K mg "end_run" fE dE ["state"]) (h2 : 2 ≤ kk) (hM : kM ≤ kk) (hE : kE ≤ kk) (mLen : mg "len" = none) : FnOk P w K mg pB CX0 (kk + 1) f fd ["state"] (spDown K c (downG (fun M M' => ∃ k, Micros S k M M') ER)) := by
  refine F.ok scDown (fun vs H Q E h => ?_) (fun cdv A outer s0 H vs Q E hr h => ?_)
  · obtain ⟨L, M, M', rfl, _⟩ := h
    rfl
  · obtain ⟨L, M, M', rfl, m, ⟨n0, Mz, hd, rfl⟩, k⟩ := h
    have nd := scDown.nd
    have N : ∀ f ∈ fState, NoAttr K c.st f := X.st.n
    refine ⟨_, PSs.nox <| pss_cons (ps_set (i := 1) nd rfl (Or.inl rfl) pe_bl)
      (pss_cons (ps_while PassesOwn.never (pt_val (pv 1))
        (pss_cons (ps_if (pt_truth (pe_fld (pv 0) (by rfl)) (by intro _; rfl)) (pss_one (ps_expr (pe_call GM (hr.mono hM) (by rfl) CM.m CM.k CM.b .nil pass0 (pa_cons (pv 0) pa_nil)))) pss_nil)
        (pss_cons (ps_if (PW.pt (pw_and (pt_truth (pe_fld (pe_fld (pv 0) (by rfl)) (by rfl)) (by intro _; rfl)) (pw_and1 (pt_not (pt_truth (pe_fld (pv 0) (by rfl)) (by intro _; rfl)))))) (pss_one (ps_expr (pe_call GT (hr.mono h2) (by rfl) CT.m CT.k CT.b .nil pass0 (pa_cons (pv 0) pa_nil)))) pss_nil)
        (pss_one (ps_set (i := 1) nd rfl (Or.inl rfl) (pe_and (pe_cmpR op_gt (pe_callB call_len_seq (by rfl) mLen PySem.boot_len (pa_cons (pe_fld (pv 0) (by rfl)) pa_nil)) pe_int (nomark _)) (pe_one (pe_call GE (hr.mono hE) (by rfl) CE.m CE.k CE.b .nil pass0 (pa_cons (pv 0) pa_nil)))))))))
      (pss_cons (ps_fld (pv 0) pe_int (by rfl)) (pss_one (ps_fld (pv 0) pe_bl (by rfl))))), ?_⟩
    refine asg_n ?_
    refine gmid_of (fun σ' H' => σ'[0]? = some (some (.ref (L.ad .st))) ∧ ∃ L', MR K c H' L' Mz ∧ Stp H L H' L') (fun N1 hN => ?_) (fun σ' H' hm => ?_)
    · refine gwhile (m0 := n0 + 1) (fun i σ' H' => σ'[0]? = some (some (.ref (L.ad .st))) ∧ σ'.length = 2 ∧ σ'[1]? = some (some (.bl (decide (0 < i)))) ∧ ∃ L' M1, MR K c H' L' M1 ∧ Stp H L H' L' ∧ ((i = 0 ∧ M1 = Mz) ∨ ∃ j, i = j + 1 ∧ DownL (fun M M' => ∃ k, Micros S k M M') ER j M1 Mz))
        (fun i σ' H' b H1 => H1 = H' ∧ b = decide (0 < i)) ⟨rfl, rfl, by rw [decide_eq_true (Nat.succ_pos n0)]; rfl, L, M, m, Stp.refl H L, .inr ⟨n0, rfl, hd⟩⟩ ?_ ?_ ?_
      · rintro i σ' H' ⟨g0, g2, g1, _⟩ C hC
        exact ⟨_, g1, _, rfl, hC _ _ ⟨rfl, rfl⟩⟩
      · rintro i σ' H' H1 ⟨g0, g2, g1, L1, M1, m1, s1, hi⟩ ⟨rfl, hb⟩
        have hpos : 0 < i := of_decide_eq_true hb.symm
        obtain ⟨j, rfl, hdl⟩ := hi.resolve_left (fun z => by omega)
        have hst : ∃ M2, DStep (fun M M' => ∃ k, Micros S k M M') M1 M2 ∧ ((M2.opened = [] ∧ j = 0 ∧ M2 = Mz) ∨ (M2.opened ≠ [] ∧ ((j = 0 ∧ ER M2 false Mz) ∨ ∃ j' M3, j = j' + 1 ∧ ER M2 true M3 ∧ DownL (fun M M' => ∃ k, Micros S k M M') ER j' M3 Mz))) := by
          cases hdl with
          | last h1 h2 => exact ⟨_, h1, .inl ⟨h2, rfl, rfl⟩⟩
          | lastR h1 h2 h3 => exact ⟨_, h1, .inr ⟨h2, .inl ⟨rfl, h3⟩⟩⟩
          | more h1 h2 h3 h4 => exact ⟨_, h1, .inr ⟨h2, .inr ⟨_, _, rfl, h3, h4⟩⟩⟩
        obtain ⟨M2, ⟨Ma, hma, htk, rfl⟩, hend⟩ := hst
        clear hdl hi
        rw [← s1.st] at g0
        -- micros
        refine gmid_of (fun σ' H' => σ'[0]? = some (some (.ref (L.ad .st))) ∧ σ'.length = 2 ∧ ∃ L', MR K c H' L' Ma ∧ Stp H L H' L') (fun N2 hN2 => ?_) ?_
        · obtain ⟨vm, em, im, _⟩ := m1.atMi
          refine ⟨_, g0, L1.ad .st, c.st, L1.dx, _, .ref (L1.ad .micros), rfl, m1.atS, X.st.c, N _ (by decide), rfl, _, .inl ⟨_, SqL.of em, rfl⟩, ?_⟩
          rw [im]
          rcases hma with ⟨h1, rfl⟩ | ⟨h1, kk, h2⟩
          · rw [h1]
            exact iteB0 rfl (hN2 _ _ ⟨by rw [g0, s1.st], g2, L1, m1, s1⟩)
          · cases hz : M1.micros with
            | nil => exact absurd hz h1
            | cons t r =>
              refine iteB1 rfl ?_
              exact ⟨_, g0, L1, M1, Ma, kk, rfl, m1, h2, fun H2 L2 m2 s2 => hN2 _ _ ⟨by rw [g0, s1.st], g2, L2, m2, s1.trans s2⟩⟩
        rintro σ2 H2 ⟨g0, g2, L2', m2, s2⟩
        rw [← s2.st] at g0
        have b2 := m2.ar.bd2
        refine gmid_of (fun σ' H' => σ'[0]? = some (some (.ref (L.ad .st))) ∧ σ'.length = 2 ∧ ∃ L', MR K c H' L' (if Ma.micros.isEmpty = true then untoldM Ma else Ma) ∧ Stp H L H' L') (fun N2 hN2 => ?_) ?_
        · have hu := m2.atL rfl m2.ar.untold
          obtain ⟨vm, em, im, _⟩ := m2.atMi
          refine ⟨_, g0, L2'.ad .st, c.st, L2'.dx, _, .ref (L2'.ad .bk), rfl, m2.atS, X.st.c, N _ (by decide), rfl, L2'.ad .bk, c.bk, L2'.bdx, _, .ref (L2'.ad .untold), rfl, m2.atB, X.bk.c, X.bk.n _ (by decide), rfl, _, .inr (.inr ⟨_, hu, rfl⟩), ?_⟩
          cases hun : Ma.untold with
          | nil =>
            refine iteB0 rfl ?_
            refine iteF (hN2 _ _ ⟨by rw [g0, s2.st], g2, L2', ?_, s2⟩)
            rw [untoldM_none hun]
            cases Ma.micros.isEmpty <;> exact m2
          | cons ky r =>
            refine iteB1 rfl ?_
            refine ⟨_, g0, L2'.ad .st, c.st, L2'.dx, _, .ref (L2'.ad .micros), rfl, m2.atS, X.st.c, N _ (by decide), rfl, _, .inl ⟨_, SqL.of em, rfl⟩, ?_⟩
            rw [im]
            cases hz : Ma.micros.isEmpty with
            | true =>
              refine iteT ?_
              refine ⟨_, g0, L2', Ma, rfl, m2, by omega, fun H3 L3 m3 s3 => hN2 _ _ ⟨by rw [g0, s2.st], g2, L3, ?_, s2.trans s3⟩⟩
              rw [hz, if_pos rfl]; exact m3
            | false =>
              refine iteF (hN2 _ _ ⟨by rw [g0, s2.st], g2, L2', ?_, s2⟩)
              rw [hz, if_neg (by decide)]; exact m2
        rintro σ3 H3 ⟨g0, g2, L3, m3, s3⟩
        rw [← s3.st] at g0
        generalize (if Ma.micros.isEmpty = true then untoldM Ma else Ma) = M2 at m3 hend
        obtain ⟨vo, eo, io, lo⟩ := m3.atOp
        refine asg_1 ⟨_, g0, L3.ad .st, c.st, L3.dx, _, .ref (L3.ad .opened), rfl, m3.atS, X.st.c, N _ (by decide), rfl, L3.ad .opened, _, rfl, .inl (SqL.of eo), _, _, rfl, rfl, _, rfl, ?_⟩
        rw [lo]
        have g0' : ∀ b : Bool, (σ3.set 1 (some (.bl b)))[0]? = some (some (.ref (L.ad .st))) := fun b => by rw [List.getElem?_set_ne (by decide), g0, s3.st]
        rcases hend with ⟨ho, rfl, rfl⟩ | ⟨ho, hend⟩
        · rw [ho]
          refine iteF ?_
          exact ⟨0, Nat.zero_lt_succ _, g0' _, by rw [List.length_set]; exact g2, List.getElem?_set_self (by rw [g2]; decide), L3, _, m3, s3, .inl ⟨rfl, rfl⟩⟩
        · have hpo : 0 < M2.opened.length := List.length_pos_iff.mpr ho
          refine iteY (show (0 : Int) < ((M2.opened.length : Nat) : Int) by omega) ?_
          rcases hend with ⟨rfl, he⟩ | ⟨j', M3, rfl, he, hdl⟩
          · refine ⟨_, g0, L3, M2, Mz, false, rfl, m3, ho, he, fun H4 L4 m4 s4 => ?_⟩
            exact ⟨0, Nat.zero_lt_succ _, g0' _, by rw [List.length_set]; exact g2, List.getElem?_set_self (by rw [g2]; decide), L4, _, m4, s3.trans s4, .inl ⟨rfl, rfl⟩⟩
          · refine ⟨_, g0, L3, M2, M3, true, rfl, m3, ho, he, fun H4 L4 m4 s4 => ?_⟩
            exact ⟨j' + 1, Nat.lt_succ_self _, g0' _, by rw [List.length_set]; exact g2, by rw [decide_eq_true (Nat.succ_pos j')]; exact List.getElem?_set_self (by rw [g2]; decide), L4, _, m4, s3.trans s4, .inr ⟨j', rfl, hdl⟩⟩
      · rintro i σ' H' H1 ⟨g0, g2, g1, L', M1, m', s', hi⟩ ⟨rfl, hb⟩
        have hne : ¬ 0 < i := of_decide_eq_false hb.symm
        rcases hi with ⟨_, rfl⟩ | ⟨j, rfl, _⟩
        · exact hN _ _ ⟨g0, L', m', s'⟩
        · omega
    · obtain ⟨g0, L', m', s'⟩ := hm
      rw [← s'.st] at g0
      refine fld_of ⟨_, g0, L'.ad .st, c.st, L'.dx, _, rfl, m'.atS, X.st.c, N _ (by decide), (show 18 < 1000 by decide), ?_⟩
      have m2 := m'.stS X.cn Mz.picks Mz.numbers 0 Mz.clock Mz.flooded Mz.busy
      have s2 := s'.put m'.cr (m'.ar.fx .st rfl) (o := .ins c.st L'.dx (stF L' { Mz with done := 0 }))
      refine hp_of (show _ = L2.upd H' (L'.ad .st) (.ins c.st L'.dx (stF L' { Mz with done := 0 })) from by rw [← put_done L' Mz 0]; rfl) ?_
      obtain ⟨Lb, m2, s2, hst, hdx⟩ : ∃ Lb, MR K c (L2.upd H' (L'.ad .st) (.ins c.st L'.dx (stF L' { Mz with done := 0 }))) Lb { Mz with done := 0 } ∧ Stp H L (L2.upd H' (L'.ad .st) (.ins c.st L'.dx (stF L' { Mz with done := 0 }))) Lb ∧ Lb.ad .st = L'.ad .st ∧ Lb.dx = L'.dx := ⟨_, m2, s2, rfl, rfl⟩
      generalize L2.upd H' (L'.ad .st) (.ins c.st L'.dx (stF L' { Mz with done := 0 })) = H2 at m2 s2 ⊢
      rw [← hst] at g0
      have m3 := m2.stS X.cn Mz.picks Mz.numbers 0 Mz.clock false Mz.busy
      have s3 := s2.put m2.cr (m2.ar.fx .st rfl) (o := .ins c.st Lb.dx (stF Lb { Mz with done := 0, flooded := false }))
      refine fldl_of ⟨_, g0, Lb.ad .st, c.st, Lb.dx, _, rfl, m2.atS, X.st.c, N _ (by decide), (show 18 < 1000 by decide), ?_⟩
      rw [put_flooded]
      exact k _ _ m3 s3
end
end My

set_option Elab.async false
set_option linter.all false
set_option maxRecDepth 100000
set_option maxHeartbeats 4000000
namespace My
open PySem L2 PyProof.Rows
/-! ### events told, counted -/
def selS (d : PyData) : Bool := decide (wdE d = "said")
def selMc (d : PyData) : Bool := decide (wdE d = "micro")
def Ev (M M' : Mach) (ss : List PyData) (k : Nat) : Prop := ∃ es, M'.events = M.events ++ es ∧ (∀ d ∈ es, IsEv d) ∧ (es.filter selS).map thE = ss ∧ (es.filter selMc).length = k
theorem Ev.of {M M' : Mach} (h : M'.events = M.events) : Ev M M' [] 0 := ⟨[], by rw [List.append_nil, h], (fun d h => nomatch h), rfl, rfl⟩
theorem Ev.refl (M : Mach) : Ev M M [] 0 := Ev.of rfl
theorem Ev.trans {M M1 M2 : Mach} {a b : List PyData} {j k : Nat} (x : Ev M M1 a j) (y : Ev M1 M2 b k) : Ev M M2 (a ++ b) (j + k) := by
  obtain ⟨e1, h1, i1, s1, m1⟩ := x
  obtain ⟨e2, h2, i2, s2, m2⟩ := y
  refine ⟨e1 ++ e2, by rw [h2, h1, List.append_assoc], fun d hd => (List.mem_append.mp hd).elim (i1 d) (i2 d), ?_, ?_⟩
  · rw [List.filter_append, List.map_append, s1, s2]
  · rw [List.filter_append, List.length_append, m1, m2]
theorem Ev.quiet {M M' : Mach} {x : Str} {d2 : PyData} {r : List PyData} (h : M'.events = M.events ++ [.tuple (.int 0 :: .str x :: d2 :: r)]) (h1 : x ≠ "said") (h2 : x ≠ "micro") : Ev M M' [] 0 :=
  ⟨_, h, fun d hd => by rw [List.mem_singleton.mp hd]; exact ⟨_, _, _, rfl⟩, by simp [selS, wdE, h1], by simp [selMc, wdE, h2]⟩
theorem ns_micro : ¬ (("said" : Str) = "micro") := by decide +kernel
theorem nm_said : ¬ (("micro" : Str) = "said") := by decide +kernel
theorem Ev.said {M M' : Mach} {d2 : PyData} {r : List PyData} (h : M'.events = M.events ++ [.tuple (.int 0 :: .str "said" :: d2 :: r)]) : Ev M M' [d2] 0 :=
  ⟨_, h, fun d hd => by rw [List.mem_singleton.mp hd]; exact ⟨_, _, _, rfl⟩, by simp [selS, wdE, thE], by simp [selMc, wdE, ns_micro]⟩
theorem Ev.micro {M M' : Mach} {d2 : PyData} {r : List PyData} (h : M'.events = M.events ++ [.tuple (.int 0 :: .str "micro" :: d2 :: r)]) : Ev M M' [] 1 :=
  ⟨_, h, fun d hd => by rw [List.mem_singleton.mp hd]; exact ⟨_, _, _, rfl⟩, by simp [selS, wdE, nm_said], by simp [selMc, wdE]⟩
/-! ### what stays when a promise is taken note of -/
theorem takeM_rest (M : Mach) (n : Nat) (f : Fate) : (takeM M n f).named = M.named ∧ (takeM M n f).takers = M.takers ∧ (takeM M n f).stories = M.stories ∧ (takeM M n f).numbers = M.numbers ∧ (takeM M n f).flood = M.flood ∧ (takeM M n f).done = M.done ∧ (takeM M n f).flooded = M.flooded ∧ (takeM M n f).ahead = M.ahead := by
  unfold takeM lateM tellM
  simp only
  split <;> (try split) <;> exact ⟨rfl, rfl, rfl, rfl, rfl, rfl, rfl, rfl⟩
theorem nl_said : ¬ (("late" : Str) = "said") := by decide +kernel
theorem nl_micro : ¬ (("late" : Str) = "micro") := by decide +kernel
theorem takeM_ev {M : Mach} (n : Nat) (f : Fate) (hc : M.clock = 0) : Ev M (takeM M n f) [] 0 := by
  unfold takeM
  split
  · exact Ev.refl M
  · unfold lateM
    simp only
    split
    · refine Ev.quiet (x := "late") (d2 := .int (n : Int)) (r := []) ?_ nl_said nl_micro
      show M.events ++ [.tuple (.int M.clock :: _)] = _
      rw [hc]
    · exact Ev.of rfl
theorem behind_rest (M : Mach) (n : Nat) (f : Fate) : (behindM M n f).stories = M.stories ∧ (behindM M n f).numbers = M.numbers ∧ (behindM M n f).flood = M.flood ∧ (behindM M n f).done = M.done ∧ (behindM M n f).flooded = M.flooded := by
  unfold behindM behind2 behind1 tellM
  simp only
  split <;> (try split) <;> exact ⟨rfl, rfl, rfl, rfl, rfl⟩
theorem nk_s : ¬ (("kept" : Str) = "said") ∧ ¬ (("broken" : Str) = "said") := by decide +kernel
theorem nk_m : ¬ (("kept" : Str) = "micro") ∧ ¬ (("broken" : Str) = "micro") := by decide +kernel
theorem behind_evq {M : Mach} {n : Nat} {f : Fate} (hs : f.settled = true) (hc : M.clock = 0) : Ev M (behindM M n f) [] 0 := by
  obtain ⟨h1, _⟩ := behind_ev M n f
  rw [hc] at h1
  cases f with
  | opn => cases hs
  | follows _ => cases hs
  | kept d => exact Ev.quiet (x := "kept") (d2 := .int (n : Int)) (r := [d]) h1 nk_s.1 nk_m.1
  | brk d => exact Ev.quiet (x := "broken") (d2 := .int (n : Int)) (r := [d]) h1 nk_s.2 nk_m.2
/-- no more is untold than was done -/
def UT (M M' : Mach) : Prop := M.untold.length ≤ M.ticks → M'.untold.length ≤ M'.ticks
theorem UT.refl (M : Mach) : UT M M := fun h => h
theorem UT.trans {M M1 M2 : Mach} (x : UT M M1) (y : UT M1 M2) : UT M M2 := fun h => y (x h)
theorem UT.of {M M' : Mach} (h1 : M'.untold = M.untold) (h2 : M.ticks ≤ M'.ticks) : UT M M' := fun h => by rw [h1]; omega
theorem ut_behind (M : Mach) (n : Nat) (f : Fate) : UT M (behindM M n f) := by
  intro h
  have hp := len_pt M.untold (.inl (n : Int)) ()
  unfold behindM behind2 behind1 tellM
  simp only
  split <;> (try split) <;> simp only <;> omega
theorem ut_take (M : Mach) (n : Nat) (f : Fate) : UT M (takeM M n f) := by
  intro h
  have hp := len_dp M.untold (.inl (n : Int))
  unfold takeM
  split
  · exact h
  · unfold lateM
    simp only
    split
    · show (dp M.untold (.inl (n : Int))).length ≤ M.ticks + 1 + 1
      omega
    · show (dp M.untold (.inl (n : Int))).length ≤ M.ticks + 1
      omega
/-! ### those who come -/
def isThn : Tk → Bool
  | .thn .. => true
  | _ => false
def thMi (f : Fate) : Tk → Mi
  | .thn n p k b => match (if f.word = "kept" then k else b) with | none => .settle n p f | some ds => .work ⟨n, .none, ds, f.arg, some p, none⟩ none
  | _ => .settle 0 0 f
def pushes (M : Mach) (ts : List Tk) (f : Fate) : Mach := { M with micros := M.micros ++ ts.map (thMi f), ticks := M.ticks + ts.length }
theorem push_thn {M : Mach} {t : Tk} {f : Fate} (h : isThn t = true) : pushM M t f = { M with micros := M.micros ++ [thMi f t], ticks := M.ticks + 1 } := by
  cases t with
  | thn n p k b => rfl
  | _ => cases h
theorem thn_nf {t : Tk} (h : isThn t = true) : t.isFollow = false ∧ notW t := by
  cases t with
  | thn n p k b => exact ⟨rfl, trivial⟩
  | _ => cases h
theorem come_thns {f : Fate} {j : Nat} {st : List Tk} {M' : Mach} : ∀ (ts : List Tk) (M : Mach), (∀ t ∈ ts, isThn t = true) → Come notW f j (pushes M ts f) st M' → Come notW f (j + ts.length) M (st ++ ts.reverse) M'
  | [], M, _, h => by
    have e : pushes M [] f = M := by unfold pushes; simp
    rw [e] at h
    simpa using h
  | t :: ts, M, ht, h => by
    have h1 := ht t (List.mem_cons_self ..)
    rw [List.reverse_cons, ← List.append_assoc, List.length_cons, ← Nat.add_assoc]
    refine .other (thn_nf h1).2 (thn_nf h1).1 (come_thns ts _ (fun x hx => ht x (List.mem_cons_of_mem _ hx)) ?_)
    have e : pushes (pushM M t f) ts f = pushes M (t :: ts) f := by
      rw [push_thn h1]
      unfold pushes
      simp only [List.map_cons, List.length_cons, List.append_assoc, List.cons_append, List.nil_append]
      congr 1
      omega
    rw [e]; exact h
theorem pushes_ev (M : Mach) (ts : List Tk) (f : Fate) : Ev M (pushes M ts f) [] 0 := Ev.of rfl
/-! ### a micro of a taker -/
def echoD : PyData := .tuple [.str "echo"]
def sayD (x : Str) : PyData := .tuple [.str "say", .str x]
def act12 (R : Tk → Prop) : ActR := fun M t d M' r => actSay M t d M' r ∨ actEcho M t d M' r ∨ actMake M t d M' r ∨ actKeep R M t d M' r ∨ actBreak R M t d M' r ∨ actFollow R M t d M' r ∨ actThen R M t d M' r
/-- a work that begins by its script alone -/
def begP (A : ActR) (R : Tk → Prop) : Mach → Wk → Option Fate → Mach → Prop := fun M w f M' => f = none ∧ w.around = none ∧ M.stories = [] ∧ ∃ (r : Option Str) (M1 : Mach), FreshE A w.told M w.script r M1 ∧ Ends1 R M1 w .none r M'
def noGA : Mach → Nat → Nat → Fate → Mach → Prop := fun _ _ _ _ _ => False
abbrev mic12 : Mach → Mi → Mach → Prop := Mic1 (begP (act12 notW) notW) notW noGA
/-- what a taker's scripts are -/
def kOf (m : Nat) (x : Str) : Option (List PyData) := if m = 1 then none else some [echoD, sayD x]
def bOf (m : Nat) (x : Str) : Option (List PyData) := if m = 2 then none else some [sayD x, echoD]
/-- what a taker says -/
def saysT (f : Fate) (m : Nat) (x : Str) : List PyData := if f.word = "kept" then (if m = 1 then [] else [f.arg, .str x]) else (if m = 2 then [] else [.str x, f.arg])
theorem fr_take' (M : Mach) (t : Mi) (rest : List Mi) : (takeMi M t rest).clock = M.clock ∧ (takeMi M t rest).fates = M.fates ∧ (takeMi M t rest).takers = M.takers ∧ (takeMi M t rest).stories = M.stories ∧ (takeMi M t rest).ticks = M.ticks + 1 ∧ (takeMi M t rest).micros = rest ∧ (takeMi M t rest).flood = M.flood ∧ (takeMi M t rest).done = M.done + 1 := ⟨rfl, rfl, rfl, rfl, rfl, rfl, rfl, rfl⟩
/-- the machine while micros are done -/
structure Mo (M M' : Mach) (p : Nat) : Prop where
  fa : ∀ q, q ≠ p → M'.fates[q]? = M.fates[q]?
  tk : ∀ q, q ≠ p → lk M'.takers (iK q) = lk M.takers (iK q)
  st : M'.stories = M.stories
  mi : M'.micros = M.micros
  fl : M'.flood = M.flood
  dn : M'.done = M.done
  op : M'.opened = M.opened
  qu : M'.queues = M.queues
  be : M'.bears = M.bears
  bu : M'.busy = M.busy
  cl : M'.clock = M.clock
  ak : M'.asking = M.asking
  ti : M'.timers = M.timers
  il : M'.idles = M.idles
  so : M'.soonest = M.soonest
  ut : UT M M'
theorem Mo.behind (M : Mach) (p : Nat) (f : Fate) : Mo M (behindM M p f) p := by
  obtain ⟨_, _, h3, h4, _⟩ := behind_ev M p f
  obtain ⟨r1, _, r3, r4, _⟩ := behind_rest M p f
  have fr := fr_behind M p f
  exact ⟨fun q hq => by rw [h3, List.getElem?_set_ne (fun z => hq z.symm)], fun q hq => by rw [h4, lk_dp, if_neg (iK_ne hq)], r1, fr.mi, r3, r4, fr.op, fr.qu, fr.be, fr.bu, fr.cl, fr.ak, fr.ti, fr.il, fr.so, ut_behind M p f⟩
theorem settle_alone {M : Mach} {p : Nat} {f : Fate} (h1 : M.fates[p]? = some .opn) (h2 : lk M.takers (iK p) = none) : Settle notW M p f (behindM M p f) := by
  refine .opn (k := 0) h1 ?_
  have e : behindT M p = [] := by
    unfold behindT
    show ((lk M.takers (iK p)).getD []).reverse = []
    rw [h2]; rfl
  rw [e]
  exact .nil _
theorem micro_thn {M : Mach} {n p m : Nat} {x : Str} {f : Fate} (hs : f.settled = true) (hc : M.clock = 0) (h1 : M.fates[p]? = some .opn) (h2 : lk M.takers (iK p) = none) (hst : M.stories = []) (ht : M.ticks + 10 < 1000000) :
    ∃ M', mic12 M (thMi f (.thn n p (kOf m x) (bOf m x))) M' ∧ Mo M M' p ∧ Ev M M' (saysT f m x) 0 ∧ M'.ticks ≤ M.ticks + 4 := by
  have work : ∀ (a b ua ub : PyData), (∀ M0 : Mach, act12 notW M0 f.arg a (tellM M0 [.str "said", ua]) .none) → (∀ M0 : Mach, act12 notW M0 f.arg b (tellM M0 [.str "said", ub]) .none) →
      ∃ M', mic12 M (.work ⟨n, .none, [a, b], f.arg, some p, none⟩ none) M' ∧ Mo M M' p ∧ Ev M M' [ua, ub] 0 ∧ M'.ticks ≤ M.ticks + 4 := by
    intro a b ua ub ha hb
    let Ma := tellM M [.str "said", ua]
    let Mb := tellM Ma [.str "said", ub]
    have e1 : Mb.fates[p]? = some .opn := h1
    have e2 : lk Mb.takers (iK p) = none := h2
    obtain ⟨_, _, _, _, h5⟩ := behind_ev Mb p (.kept .none)
    have t2 : Mb.ticks = M.ticks + 1 + 1 := rfl
    have mo := Mo.behind Mb p (.kept .none)
    refine ⟨behindM Mb p (.kept .none), .work ⟨rfl, rfl, hst, none, Mb, .cons (ha M) (by show M.ticks + 1 < _; omega) (.cons (hb Ma) (show Mb.ticks < 1000000 by omega) (.nil Mb)), .settle rfl (by rw [show Mb.stories = [] from hst]; rfl) (settle_alone e1 e2)⟩,
      ⟨mo.fa, mo.tk, mo.st, mo.mi, mo.fl, mo.dn, mo.op, mo.qu, mo.be, mo.bu, mo.cl, mo.ak, mo.ti, mo.il, mo.so, fun h => mo.ut (by show M.untold.length ≤ M.ticks + 1 + 1; omega)⟩, ?_, by omega⟩
    have v1 : Ev M Ma [ua] 0 := Ev.said (r := []) (by show M.events ++ [.tuple (.int M.clock :: _)] = _; rw [hc])
    have v2 : Ev Ma Mb [ub] 0 := Ev.said (r := []) (by show Ma.events ++ [.tuple (.int M.clock :: _)] = _; rw [hc])
    exact (v1.trans v2).trans (behind_evq (n := p) (f := .kept .none) rfl (show Mb.clock = 0 from hc))
  have alone : ∃ M', mic12 M (.settle n p f) M' ∧ Mo M M' p ∧ Ev M M' [] 0 ∧ M'.ticks ≤ M.ticks + 4 := by
    obtain ⟨_, _, _, _, h5⟩ := behind_ev M p f
    exact ⟨_, .settle (settle_alone h1 h2) hs, Mo.behind M p f, behind_evq hs hc, by omega⟩
  have aE : ∀ M0 : Mach, act12 notW M0 f.arg echoD (tellM M0 [.str "said", f.arg]) .none := fun M0 => .inr (.inl ⟨rfl, rfl, rfl⟩)
  have aS : ∀ M0 : Mach, act12 notW M0 f.arg (sayD x) (tellM M0 [.str "said", .str x]) .none := fun M0 => .inl ⟨.str x, rfl, rfl, rfl⟩
  unfold thMi saysT kOf bOf
  simp only
  by_cases hk : f.word = "kept"
  · rw [if_pos hk, if_pos hk]
    by_cases hm : m = 1
    · rw [if_pos hm, if_pos hm]
      exact alone
    · rw [if_neg hm, if_neg hm]
      exact work _ _ _ _ aE aS
  · rw [if_neg hk, if_neg hk]
    by_cases hm : m = 2
    · rw [if_pos hm, if_pos hm]
      exact alone
    · rw [if_neg hm, if_neg hm]
      exact work _ _ _ _ aS aE
/-- a taker: its number, its promise, its kind, its word -/
structure Tn where
  n : Nat
  p : Nat
  m : Nat
  x : Str
def Tn.tk (t : Tn) : Tk := .thn t.n t.p (kOf t.m t.x) (bOf t.m t.x)
theorem micros_run {f : Fate} (hs : f.settled = true) : ∀ (ts : List Tn) (M : Mach), M.micros = ts.map (fun t => thMi f t.tk) → M.clock = 0 → M.stories = [] → M.done + ts.length ≤ M.flood → (∀ t ∈ ts, M.fates[t.p]? = some .opn ∧ lk M.takers (iK t.p) = none) → (ts.map (·.p)).Nodup → M.ticks + 5 * ts.length + 20 < 1000000 →
    ∃ (k : Nat) (M' : Mach), Micros mic12 k M M' ∧ M'.micros = [] ∧ Ev M M' (ts.flatMap fun t => saysT f t.m t.x) ts.length ∧ M'.ticks ≤ M.ticks + 5 * ts.length ∧
      (M'.opened = M.opened ∧ M'.queues = M.queues ∧ M'.bears = M.bears ∧ M'.busy = M.busy ∧ M'.clock = M.clock ∧ M'.asking = M.asking ∧ M'.timers = M.timers ∧ M'.idles = M.idles ∧ M'.soonest = M.soonest) ∧ UT M M'
  | [], M, hm, hc, hst, hd, hp, hn, ht => by
    have hm : M.micros = [] := hm
    refine ⟨0, floodM M, .stop (.inl hm) (by simp only [List.length_nil] at ht; omega), ?_⟩
    have e : floodM M = M := by unfold floodM; rw [hm, if_neg (fun z => by cases z.1)]
    rw [e]
    exact ⟨hm, Ev.refl M, Nat.le_refl _, ⟨rfl, rfl, rfl, rfl, rfl, rfl, rfl, rfl, rfl⟩, UT.refl M⟩
  | t :: ts, M, hm, hc, hst, hd, hp, hn, ht => by
    rw [List.length_cons] at hd ht
    rw [List.map_cons, List.nodup_cons] at hn
    obtain ⟨p1, p2⟩ := hp t (List.mem_cons_self ..)
    let M0 := takeMi M (thMi f t.tk) (ts.map fun t => thMi f t.tk)
    have t0 : M0.ticks = M.ticks + 1 := rfl
    obtain ⟨M1, a1, mo, ev, tb⟩ := micro_thn (M := M0) (n := t.n) (p := t.p) (m := t.m) (x := t.x) hs (show M0.clock = 0 from hc) p1 p2 (show M0.stories = [] from hst) (by omega)
    have hne : ∀ u ∈ ts, u.p ≠ t.p := fun u hu z => hn.1 (z ▸ List.mem_map_of_mem (f := (·.p)) hu)
    obtain ⟨k, M', b1, b2, b3, b4, b5, b6⟩ := micros_run hs ts M1 (by rw [mo.mi]; rfl) (by rw [mo.cl]; exact hc) (by rw [mo.st]; exact hst) (by rw [mo.dn, mo.fl]; show M.done + 1 + _ ≤ M.flood; omega)
      (fun u hu => ⟨by rw [mo.fa _ (hne u hu)]; exact (hp u (List.mem_cons_of_mem _ hu)).1, by rw [mo.tk _ (hne u hu)]; exact (hp u (List.mem_cons_of_mem _ hu)).2⟩) hn.2 (by omega)
    have e0 : Ev M M0 [] 1 := Ev.micro (d2 := .int ((thMi f t.tk).num : Int)) (r := []) (by show M.events ++ [.tuple (.int M.clock :: _)] = _; rw [hc])
    refine ⟨k + 1, M', .more hm (by omega) (by omega) a1 (by omega) b1, b2, ?_, by rw [List.length_cons]; omega, ?_, (UT.of (M := M) (M' := M0) rfl (Nat.le_succ M.ticks)).trans (mo.ut.trans b6)⟩
    · have := (e0.trans ev).trans b3
      rw [List.flatMap_cons, List.length_cons]
      rw [List.nil_append, Nat.add_zero, Nat.add_comm 1] at this
      exact this
    · obtain ⟨c1, c2, c3, c4, c5, c6, c7, c8, c9⟩ := b5
      exact ⟨c1.trans mo.op, c2.trans mo.qu, c3.trans mo.be, c4.trans mo.bu, c5.trans mo.cl, c6.trans mo.ak, c7.trans mo.ti, c8.trans mo.il, c9.trans mo.so⟩
end My

set_option Elab.async false
set_option linter.all false
set_option maxRecDepth 100000
set_option maxHeartbeats 4000000
namespace My
open PySem L2 PyProof.Rows
/-! ### the one work of the law: what it does -/
structure Fx (M M' : Mach) : Prop where
  op : M'.opened = M.opened
  qu : M'.queues = M.queues
  be : M'.bears = M.bears
  bu : M'.busy = M.busy
  cl : M'.clock = M.clock
  ak : M'.asking = M.asking
  ti : M'.timers = M.timers
  il : M'.idles = M.idles
  so : M'.soonest = M.soonest
  fl : M'.flood = M.flood
  dn : M'.done = M.done
  st : M'.stories = M.stories
  ut : UT M M'
theorem Fx.refl (M : Mach) : Fx M M := ⟨rfl, rfl, rfl, rfl, rfl, rfl, rfl, rfl, rfl, rfl, rfl, rfl, UT.refl M⟩
theorem Fx.trans {M M1 M2 : Mach} (x : Fx M M1) (y : Fx M1 M2) : Fx M M2 := ⟨y.op.trans x.op, y.qu.trans x.qu, y.be.trans x.be, y.bu.trans x.bu, y.cl.trans x.cl, y.ak.trans x.ak, y.ti.trans x.ti, y.il.trans x.il, y.so.trans x.so, y.fl.trans x.fl, y.dn.trans x.dn, y.st.trans x.st, x.ut.trans y.ut⟩
theorem fx_take (M : Mach) (n : Nat) (g : Fate) : Fx M (takeM M n g) := by
  have h := fr_take M n g
  obtain ⟨_, _, h3, _, h5, h6, _, _⟩ := takeM_rest M n g
  exact ⟨h.op, h.qu, h.be, h.bu, h.cl, h.ak, h.ti, h.il, h.so, h5, h6, h3, ut_take M n g⟩
theorem fx_behind (M : Mach) (n : Nat) (f : Fate) : Fx M (behindM M n f) := by
  have h := Mo.behind M n f
  exact ⟨h.op, h.qu, h.be, h.bu, h.cl, h.ak, h.ti, h.il, h.so, h.fl, h.dn, h.st, h.ut⟩
structure TL where
  q : Bool
  m : Nat
  x : Str
def TL.i (t : TL) : Nat := if t.q then 1 else 0
def TL.nm (t : TL) : Str := if t.q then "q" else "p"
def thnD (t : TL) : PyData := .tuple [.str "then", .str t.nm, .str "z", oS (kOf t.m t.x), oS (bOf t.m t.x)]
def Tn.mx (t : Tn) : Nat × Str := (t.m, t.x)
def TL.mx (t : TL) : Nat × Str := (t.m, t.x)
/-- names, and the promises that nobody sees -/
structure PZ (M : Mach) (all : List Tn) : Prop where
  fl : 2 ≤ M.fates.length
  fr : ∀ k, 2 ≤ k → k < M.fates.length → M.fates[k]? = some .opn
  np : lk M.named (sK "p") = some 0
  nq : lk M.named (sK "q") = some 1
  t2 : ∀ k, 2 ≤ k → lk M.takers (iK k) = none
  st : M.stories = []
  cl : M.clock = 0
  nd : (all.map (·.p)).Nodup
  al : ∀ t ∈ all, 2 ≤ t.p ∧ t.p < M.fates.length
theorem np_z : ¬ (sK "p" = sK "z") ∧ ¬ (sK "q" = sK "z") := by
  have h : ¬ (("p" : Str) = "z") ∧ ¬ (("q" : Str) = "z") := by decide +kernel
  exact ⟨fun z => h.1 (Sum.inr.inj z), fun z => h.2 (Sum.inr.inj z)⟩
theorem PZ.perm {M : Mach} {a b : List Tn} (h : PZ M a) (p : a.Perm b) : PZ M b := { h with
  nd := (p.map (·.p)).nodup_iff.mp h.nd
  al := fun t ht => h.al t (p.mem_iff.mpr ht) }
/-- behind the makings of a then -/
def mid12 (M : Mach) (i : Nat) (g : Fate) : Mach := takeM (makeP (numM M) "z") i g
def tn12 (M : Mach) (t : TL) : Tn := ⟨M.numbers, M.fates.length, t.m, t.x⟩
theorem PZ.mid {M : Mach} {all : List Tn} (h : PZ M all) (t : TL) (g : Fate) : PZ (mid12 M t.i g) (tn12 M t :: all) ∧ Fx M (mid12 M t.i g) ∧ Ev M (mid12 M t.i g) [] 0 ∧ (mid12 M t.i g).ticks ≤ M.ticks + 3 ∧ (mid12 M t.i g).fates = M.fates ++ [.opn] ∧ (mid12 M t.i g).takers = M.takers ∧ (mid12 M t.i g).micros = M.micros := by
  obtain ⟨r1, r2, r3, r4, r5, r6, _, _⟩ := takeM_rest (makeP (numM M) "z") t.i g
  obtain ⟨e1, e2⟩ := takeM_fates (makeP (numM M) "z") t.i g
  have fx := fx_take (makeP (numM M) "z") t.i g
  have ef : (mid12 M t.i g).fates = M.fates ++ [.opn] := e1
  have el : (mid12 M t.i g).fates.length = M.fates.length + 1 := by rw [ef, List.length_append]; rfl
  have en : (mid12 M t.i g).named = pt M.named (sK "z") M.fates.length := r1
  refine ⟨⟨by rw [el]; have := h.fl; omega, fun k h2 hk => ?_, ?_, ?_, fun k hk => ?_, r3.trans h.st, fx.cl.trans h.cl, ?_, fun u hu => ?_⟩, ?_, ?_, ?_, ef, r2, (fr_take _ _ _).mi⟩
  · rw [ef]
    rw [el] at hk
    by_cases q : k < M.fates.length
    · rw [List.getElem?_append_left q]; exact h.fr k h2 q
    · obtain rfl : k = M.fates.length := by omega
      rw [List.getElem?_append_right (Nat.le_refl _), Nat.sub_self]; rfl
  · rw [en, lk_pt, if_neg np_z.1]; exact h.np
  · rw [en, lk_pt, if_neg np_z.2]; exact h.nq
  · show lk (mid12 M t.i g).takers _ = none
    rw [show (mid12 M t.i g).takers = M.takers from r2]; exact h.t2 k hk
  · rw [List.map_cons, List.nodup_cons]
    refine ⟨fun z => ?_, h.nd⟩
    obtain ⟨u, hu, e⟩ := List.mem_map.mp z
    have := (h.al u hu).2
    have e : u.p = M.fates.length := e
    omega
  · rw [el]
    rcases List.mem_cons.mp hu with rfl | hu
    · have := h.fl
      show 2 ≤ M.fates.length ∧ M.fates.length < _
      omega
    · have := h.al u hu; omega
  · exact Fx.trans (M1 := makeP (numM M) "z") ⟨rfl, rfl, rfl, rfl, rfl, rfl, rfl, rfl, rfl, rfl, rfl, rfl, UT.of rfl (by first | exact Nat.le_refl _ | exact Nat.le_succ _ | exact Nat.le_add_right ..)⟩ fx
  · exact (show Ev M (makeP (numM M) "z") [] 0 from Ev.of rfl).trans (takeM_ev t.i g (show (makeP (numM M) "z").clock = 0 from h.cl))
  · have e2 : (mid12 M t.i g).ticks ≤ (M.ticks + 1) + 2 := e2
    omega
/-- ahead of the end -/
structure PA (M : Mach) (ta tq tb : List Tn) (fo : Bool) : Prop where
  z : PZ M (ta ++ tq ++ tb)
  f0 : M.fates[0]? = some .opn
  f1 : M.fates[1]? = some (if fo = true then .follows 0 else .opn)
  k0 : (lk M.takers (iK 0)).getD [] = ta.map Tn.tk ++ (if fo = true then .follow 1 :: tb.map Tn.tk else [])
  k1 : (lk M.takers (iK 1)).getD [] = tq.map Tn.tk
  fb : fo = false → tb = []
  mi : M.micros = []
theorem pt_fx (M : Mach) (n : Nat) (t : Tk) : Fx M (putTM M n t) := ⟨rfl, rfl, rfl, rfl, rfl, rfl, rfl, rfl, rfl, rfl, rfl, rfl, UT.of rfl (by first | exact Nat.le_refl _ | exact Nat.le_succ _ | exact Nat.le_add_right ..)⟩
theorem lk_put (M : Mach) (n k : Nat) (t : Tk) : lk (putTM M n t).takers (iK k) = if k = n then some ((lk M.takers (iK n)).getD [] ++ [t]) else lk M.takers (iK k) := by
  show lk (pt M.takers (iK n) _) (iK k) = _
  rw [lk_pt]
  by_cases h : k = n
  · rw [if_pos (iK_inj.mpr h), if_pos h]
  · rw [if_neg (fun z => h (iK_inj.mp z)), if_neg h]
theorem PZ.put {M : Mach} {all : List Tn} (h : PZ M all) {n : Nat} (hn : n < 2) (t : Tk) : PZ (putTM M n t) all := { h with
  t2 := fun k hk => by rw [lk_put, if_neg (by omega)]; exact h.t2 k hk }
theorem PA.step {M : Mach} {ta tq tb : List Tn} {fo : Bool} (h : PA M ta tq tb fo) (t : TL) (ht : M.ticks + 10 < 1000000) (told : PyData) :
    ∃ M' ta' tq' tb', act12 notW M told (thnD t) M' .none ∧ PA M' ta' tq' tb' fo ∧ Fx M M' ∧ Ev M M' [] 0 ∧ M'.ticks ≤ M.ticks + 4 ∧
      ta'.map Tn.mx = ta.map Tn.mx ++ (if t.q = false ∧ fo = false then [t.mx] else []) ∧ tq'.map Tn.mx = tq.map Tn.mx ++ (if t.q = true then [t.mx] else []) ∧ tb'.map Tn.mx = tb.map Tn.mx ++ (if t.q = false ∧ fo = true then [t.mx] else []) := by
  have hg : ∃ g, M.fates[t.i]? = some g ∧ g.settled = false := by
    unfold TL.i
    cases t.q with
    | false => exact ⟨.opn, h.f0, rfl⟩
    | true =>
      refine ⟨_, h.f1, ?_⟩
      cases fo <;> rfl
  obtain ⟨g, hg, hs⟩ := hg
  have hnm : lk M.named (.inr t.nm) = some t.i := by
    unfold TL.nm TL.i
    cases t.q with
    | false => exact h.z.np
    | true => exact h.z.nq
  have hi : t.i < 2 := by unfold TL.i; cases t.q <;> decide
  obtain ⟨z1, fx1, ev1, tb1, ef, ek, em⟩ := h.z.mid t g
  have eM : thenM M t.i "z" (kOf t.m t.x) (bOf t.m t.x) g = putTM (mid12 M t.i g) t.i (tn12 M t).tk := by
    show putG _ _ _ _ = _
    unfold putG
    rw [if_neg (by rw [hs]; decide)]
    rfl
  have act : act12 notW M told (thnD t) (putTM (mid12 M t.i g) t.i (tn12 M t).tk) .none :=
    .inr (.inr (.inr (.inr (.inr (.inr ⟨t.nm, "z", kOf t.m t.x, bOf t.m t.x, t.i, g, rfl, hnm, hg, (fun z => by rw [hs] at z; cases z), eM.symm, rfl⟩)))))
  have z2 := z1.put hi (tn12 M t).tk
  have fx2 := fx1.trans (pt_fx (mid12 M t.i g) t.i (tn12 M t).tk)
  have ev2 : Ev M (putTM (mid12 M t.i g) t.i (tn12 M t).tk) [] 0 := ev1.trans (Ev.of rfl)
  have tb2 : (putTM (mid12 M t.i g) t.i (tn12 M t).tk).ticks = (mid12 M t.i g).ticks + 1 := rfl
  have hl := h.z.fl
  have g0 : (putTM (mid12 M t.i g) t.i (tn12 M t).tk).fates[0]? = some .opn := by
    show (mid12 M t.i g).fates[0]? = _
    rw [ef, List.getElem?_append_left (by omega)]; exact h.f0
  have g1 : (putTM (mid12 M t.i g) t.i (tn12 M t).tk).fates[1]? = some (if fo = true then .follows 0 else .opn) := by
    show (mid12 M t.i g).fates[1]? = _
    rw [ef, List.getElem?_append_left (by omega)]; exact h.f1
  have k0 : (lk (putTM (mid12 M t.i g) t.i (tn12 M t).tk).takers (iK 0)).getD [] = if 0 = t.i then (lk M.takers (iK t.i)).getD [] ++ [(tn12 M t).tk] else (lk M.takers (iK 0)).getD [] := by
    rw [lk_put, ek]
    split <;> rfl
  have k1 : (lk (putTM (mid12 M t.i g) t.i (tn12 M t).tk).takers (iK 1)).getD [] = if 1 = t.i then (lk M.takers (iK t.i)).getD [] ++ [(tn12 M t).tk] else (lk M.takers (iK 1)).getD [] := by
    rw [lk_put, ek]
    split <;> rfl
  generalize hM' : putTM (mid12 M t.i g) t.i (tn12 M t).tk = M' at *
  have em' : M'.micros = [] := by rw [← hM']; exact em.trans h.mi
  cases hq : t.q with
  | true =>
    have ei : t.i = 1 := by unfold TL.i; rw [hq]; rfl
    rw [ei, if_neg (by decide)] at k0
    rw [ei, if_pos rfl] at k1
    refine ⟨M', ta, tq ++ [tn12 M t], tb, act, ⟨z2.perm ?_, g0, g1, by rw [k0]; exact h.k0, by rw [k1, h.k1, List.map_append]; rfl, h.fb, em'⟩, fx2, ev2, by omega, by simp, by rw [List.map_append, if_pos rfl]; rfl, by simp⟩
    have e : ta ++ (tq ++ [tn12 M t]) ++ tb = (ta ++ tq) ++ tn12 M t :: tb := by simp
    rw [e]
    exact List.perm_middle.symm
  | false =>
    have ei : t.i = 0 := by unfold TL.i; rw [hq]; rfl
    rw [ei, if_pos rfl] at k0
    rw [ei, if_neg (by decide)] at k1
    cases fo with
    | false =>
      have htb := h.fb rfl
      subst htb
      refine ⟨M', ta ++ [tn12 M t], tq, [], act, ⟨z2.perm ?_, g0, g1, ?_, by rw [k1]; exact h.k1, fun _ => rfl, em'⟩, fx2, ev2, by omega, by rw [List.map_append, if_pos ⟨rfl, rfl⟩]; rfl, by simp, by simp⟩
      · have e : ta ++ [tn12 M t] ++ tq ++ [] = ta ++ tn12 M t :: (tq ++ []) := by simp
        rw [e, List.append_assoc]
        exact List.perm_middle.symm
      · have q := h.k0
        rw [if_neg (by decide), List.append_nil] at q
        rw [k0, q, if_neg (by decide), List.append_nil, List.map_append]; rfl
    | true =>
      refine ⟨M', ta, tq, tb ++ [tn12 M t], act, ⟨z2.perm ?_, g0, g1, ?_, by rw [k1]; exact h.k1, (fun z => by cases z), em'⟩, fx2, ev2, by omega, by simp, by simp, by rw [List.map_append, if_pos ⟨rfl, rfl⟩]; rfl⟩
      · rw [← List.append_assoc]
        exact (List.perm_append_singleton _ _).symm
      · have q := h.k0
        rw [if_pos rfl] at q
        rw [k0, q, if_pos rfl, List.map_append, List.append_assoc]; rfl
theorem Fresh.app {A : ActR} {told : PyData} {M M1 M2 : Mach} {xs ys : List PyData} (h : Fresh A told M xs M1) (t : Fresh A told M1 ys M2) : Fresh A told M (xs ++ ys) M2 := by
  induction h with
  | nil => exact t
  | cons a b _ ih => exact .cons a b (ih t)
theorem PA.steps {fo : Bool} (told : PyData) : ∀ (l : List TL) (M : Mach) (ta tq tb : List Tn), PA M ta tq tb fo → M.ticks + 5 * l.length + 10 < 1000000 →
    ∃ M' ta' tq' tb', Fresh (act12 notW) told M (l.map thnD) M' ∧ PA M' ta' tq' tb' fo ∧ Fx M M' ∧ Ev M M' [] 0 ∧ M'.ticks ≤ M.ticks + 5 * l.length ∧
      ta'.map Tn.mx = ta.map Tn.mx ++ (if fo = false then (l.filter fun t => !t.q).map TL.mx else []) ∧ tq'.map Tn.mx = tq.map Tn.mx ++ (l.filter fun t => t.q).map TL.mx ∧ tb'.map Tn.mx = tb.map Tn.mx ++ (if fo = true then (l.filter fun t => !t.q).map TL.mx else [])
  | [], M, ta, tq, tb, h, ht => ⟨M, ta, tq, tb, .nil M, h, Fx.refl M, Ev.refl M, Nat.le_refl _, by simp, by simp, by simp⟩
  | t :: l, M, ta, tq, tb, h, ht => by
    rw [List.length_cons] at ht
    obtain ⟨M1, a1, q1, b1, s1, s2, s3, s4, s5, s6, s7, s8⟩ := h.step t (by omega) told
    obtain ⟨M', a', q', b', r1, r2, r3, r4, r5, r6, r7, r8⟩ := PA.steps told l M1 a1 q1 b1 s2 (by omega)
    refine ⟨M', a', q', b', .cons s1 (by omega) r1, r2, s3.trans r3, s4.trans r4, by rw [List.length_cons]; omega, ?_, ?_, ?_⟩
    · rw [r6, s6]
      cases hq : t.q <;> cases fo <;> simp [hq]
    · rw [r7, s7]
      cases hq : t.q <;> simp [hq]
    · rw [r8, s8]
      cases hq : t.q <;> cases fo <;> simp [hq]
theorem shp_opn : SeqAt.shaped Fate.opn.d = true := by decide +kernel
/-- q follows p -/
theorem PA.follow {M : Mach} {ta tq tb : List Tn} (h : PA M ta tq tb false) (ht : M.ticks + 20 < 1000000) (told : PyData) : ∃ M', act12 notW M told (foD "q" "p") M' .none ∧ PA M' ta tq [] true ∧ Fx M M' ∧ Ev M M' [] 0 ∧ M'.ticks ≤ M.ticks + 6 := by
  have htb := h.fb rfl
  subst htb
  have f1 := h.f1
  rw [if_neg (by decide)] at f1
  have hrow : EndRow M 0 [] 0 := .stop h.f0 (by decide +kernel)
  have hF : Follow notW M 1 0 (setRow (takeM (aheadM M [] 0) 0 .opn) 1 0) := .row f1 hrow (by decide) h.f0 rfl (by show M.ticks + 0 + 5 < _; omega)
  obtain ⟨r1, r2, r3, r4, r5, r6, _, _⟩ := takeM_rest (aheadM M [] 0) 0 .opn
  obtain ⟨e1, e2⟩ := takeM_fates (aheadM M [] 0) 0 .opn
  have fx := fx_take (aheadM M [] 0) 0 .opn
  have hl := h.z.fl
  have ef : (setRow (takeM (aheadM M [] 0) 0 .opn) 1 0).fates = M.fates.set 1 (.follows 0) := by
    show (takeM (aheadM M [] 0) 0 .opn).fates.set 1 (.follows 0) = _
    rw [e1]; rfl
  have en : (setRow (takeM (aheadM M [] 0) 0 .opn) 1 0).named = M.named := r1
  have ek : ∀ k, lk (setRow (takeM (aheadM M [] 0) 0 .opn) 1 0).takers (iK k) = if k = 0 then some ((lk M.takers (iK 0)).getD [] ++ [.follow 1]) else lk M.takers (iK k) := fun k => by
    show lk (putTM _ 0 (.follow 1)).takers (iK k) = _
    rw [lk_put]
    show (if k = 0 then some ((lk (takeM (aheadM M [] 0) 0 .opn).takers (iK 0)).getD [] ++ [.follow 1]) else lk (takeM (aheadM M [] 0) 0 .opn).takers (iK k)) = _
    rw [r2]; rfl
  have et : (setRow (takeM (aheadM M [] 0) 0 .opn) 1 0).ticks = (takeM (aheadM M [] 0) 0 .opn).ticks + 1 + 1 := rfl
  have e2 : (takeM (aheadM M [] 0) 0 .opn).ticks ≤ (M.ticks + 0) + 2 := e2
  have ev := (show Ev M (aheadM M [] 0) [] 0 from Ev.of rfl).trans (takeM_ev 0 .opn (show (aheadM M [] 0).clock = 0 from h.z.cl))
  have fxx : Fx M (setRow (takeM (aheadM M [] 0) 0 .opn) 1 0) := ⟨fx.op, fx.qu, fx.be, fx.bu, fx.cl, fx.ak, fx.ti, fx.il, fx.so, fx.fl, fx.dn, fx.st, fun h => Nat.le_trans (fx.ut (by show M.untold.length ≤ M.ticks + 0; omega)) (by show _ ≤ _ + 1 + 1; omega)⟩
  have emi : (setRow (takeM (aheadM M [] 0) 0 .opn) 1 0).micros = [] := (fr_take (aheadM M [] 0) 0 .opn).mi.trans h.mi
  refine ⟨_, .inr (.inr (.inr (.inr (.inr (.inl ⟨"q", "p", 1, 0, rfl, h.z.nq, h.z.np, hF, rfl⟩))))), ?_, fxx, ev.trans (Ev.of rfl), by omega⟩
  generalize setRow (takeM (aheadM M [] 0) 0 .opn) 1 0 = M' at ef en ek fxx emi
  have el : M'.fates.length = M.fates.length := by rw [ef, List.length_set]
  refine ⟨⟨by omega, fun k h2 hk => ?_, by rw [en]; exact h.z.np, by rw [en]; exact h.z.nq, fun k hk => ?_, fxx.st.trans h.z.st, fxx.cl.trans h.z.cl, h.z.nd, fun t ht => by rw [el]; exact h.z.al t ht⟩, ?_, ?_, ?_, ?_, (fun z => by cases z), emi⟩
  · rw [ef, List.getElem?_set_ne (by omega)]; exact h.z.fr k h2 (by omega)
  · rw [ek, if_neg (by omega)]; exact h.z.t2 k hk
  · rw [ef, List.getElem?_set_ne (by decide)]; exact h.f0
  · rw [ef, List.getElem?_set_self (by omega), if_pos rfl]
  · rw [ek, if_pos rfl, if_pos rfl]
    have q := h.k0
    rw [if_neg (by decide), List.append_nil] at q
    show (lk M.takers (iK 0)).getD [] ++ _ = _
    rw [q]; rfl
  · rw [ek, if_neg (by decide)]; exact h.k1
/-- behind the end -/
structure PB (M : Mach) (f : Fate) (ts : List Tn) : Prop where
  z : PZ M ts
  f0 : M.fates[0]? = some f
  f1 : M.fates[1]? = some f
  mi : M.micros = ts.map fun t => thMi f t.tk
theorem thn_all (l : List Tn) : ∀ t ∈ l.map Tn.tk, isThn t = true := fun t ht => by
  obtain ⟨u, _, rfl⟩ := List.mem_map.mp ht
  rfl
theorem PA.settle {M : Mach} {ta tq tb : List Tn} {f : Fate} (h : PA M ta tq tb true) (hs : f.settled = true) (ht : M.ticks + (ta ++ tq ++ tb).length + 100 < 1000000) : ∃ M', Settle notW M 0 f M' ∧ PB M' f (ta ++ tq ++ tb) ∧ Fx M M' ∧ Ev M M' [] 0 ∧ M'.ticks ≤ M.ticks + (ta ++ tq ++ tb).length + 4 := by
  obtain ⟨_, a2, a3, a4, a5⟩ := behind_ev M 0 f
  have mo1 := Mo.behind M 0 f
  have hl := h.z.fl
  let M1 := behindM M 0 f
  let M2 := pushes M1 (ta.map Tn.tk) f
  obtain ⟨_, b2, b3, b4, b5⟩ := behind_ev M2 1 f
  have mo2 := Mo.behind M2 1 f
  let M3 := behindM M2 1 f
  let M4 := pushes M3 ((tq ++ tb).map Tn.tk) f
  have e0 : behindT M 0 = (tb.map Tn.tk).reverse ++ [.follow 1] ++ (ta.map Tn.tk).reverse := by
    unfold behindT
    show ((lk M.takers (iK 0)).getD []).reverse = _
    rw [h.k0, if_pos rfl]
    simp
  have e1 : behindT M2 1 = (tq.map Tn.tk).reverse := by
    unfold behindT
    show ((lk M1.takers (iK 1)).getD []).reverse = _
    rw [show M1.takers = dp M.takers (iK 0) from a4, lk_dp, if_neg (iK_ne (by decide)), h.k1]
  have c4 : Come notW f 0 M4 [] M4 := .nil _
  have c3 := come_thns (f := f) (j := 0) (st := []) (M' := M4) ((tq ++ tb).map Tn.tk) M3 (thn_all _) c4
  have e3 : ([] : List Tk) ++ ((tq ++ tb).map Tn.tk).reverse = (tb.map Tn.tk).reverse ++ behindT M2 1 := by rw [e1]; simp
  rw [e3] at c3
  have hlen : ((tb.map Tn.tk).reverse ++ behindT M2 1).length < 1000000 := by
    rw [e1]
    simp only [List.length_append, List.length_reverse, List.length_map] at ht ⊢
    omega
  have c2 : Come notW f _ M2 ((tb.map Tn.tk).reverse ++ [.follow 1]) M4 := .follow (by
    show 1 < M1.fates.length
    rw [show M1.fates = M.fates.set 0 f from a3, List.length_set]; omega) hlen c3
  have c1 := come_thns (f := f) (ta.map Tn.tk) M1 (thn_all _) c2
  rw [← e0] at c1
  have hset : Settle notW M 0 f M4 := .opn h.f0 c1
  have ef : M4.fates = (M.fates.set 0 f).set 1 f := by
    show (behindM M2 1 f).fates = _
    rw [b3]
    show M1.fates.set 1 f = _
    rw [show M1.fates = M.fates.set 0 f from a3]
  have el : M4.fates.length = M.fates.length := by rw [ef, List.length_set, List.length_set]
  have en : M4.named = M.named := by
    show (behindM M2 1 f).named = _
    rw [b2]
    exact a2
  have ek : ∀ k, 2 ≤ k → lk M4.takers (iK k) = lk M.takers (iK k) := fun k hk => by
    show lk (behindM M2 1 f).takers _ = _
    rw [b4, lk_dp, if_neg (iK_ne (by omega))]
    show lk M1.takers _ = _
    rw [show M1.takers = dp M.takers (iK 0) from a4, lk_dp, if_neg (iK_ne (by omega))]
  have em : M4.micros = (ta ++ tq ++ tb).map fun t => thMi f t.tk := by
    show (behindM M2 1 f).micros ++ _ = _
    rw [(fr_behind M2 1 f).mi]
    show (M1.micros ++ _) ++ _ = _
    rw [show M1.micros = M.micros from (fr_behind M 0 f).mi, h.mi]
    simp [List.map_map, Function.comp]
    rfl
  have fx : Fx M M4 := (fx_behind M 0 f).trans (Fx.trans (M1 := M2) ⟨rfl, rfl, rfl, rfl, rfl, rfl, rfl, rfl, rfl, rfl, rfl, rfl, UT.of rfl (by first | exact Nat.le_refl _ | exact Nat.le_succ _ | exact Nat.le_add_right ..)⟩ ((fx_behind M2 1 f).trans ⟨rfl, rfl, rfl, rfl, rfl, rfl, rfl, rfl, rfl, rfl, rfl, rfl, UT.of rfl (by first | exact Nat.le_refl _ | exact Nat.le_succ _ | exact Nat.le_add_right ..)⟩))
  have ev : Ev M M4 [] 0 := (behind_evq hs h.z.cl).trans ((pushes_ev M1 (ta.map Tn.tk) f).trans ((behind_evq (n := 1) hs (show M2.clock = 0 from (fx_behind M 0 f).cl.trans h.z.cl)).trans (pushes_ev M3 _ f)))
  refine ⟨M4, hset, ⟨⟨by omega, fun k h2 hk => ?_, by rw [en]; exact h.z.np, by rw [en]; exact h.z.nq, fun k hk => by rw [ek k hk]; exact h.z.t2 k hk, fx.st.trans h.z.st, fx.cl.trans h.z.cl, h.z.nd, fun t ht => by rw [el]; exact h.z.al t ht⟩, ?_, ?_, em⟩, fx, ev, ?_⟩
  · rw [ef, List.getElem?_set_ne (by omega), List.getElem?_set_ne (by omega)]; exact h.z.fr k h2 (by omega)
  · rw [ef, List.getElem?_set_ne (by decide), List.getElem?_set_self (by omega)]
  · rw [ef, List.getElem?_set_self (by rw [List.length_set]; omega)]
  · show (behindM M2 1 f).ticks + ((tq ++ tb).map Tn.tk).length ≤ _
    have b5 : (behindM M2 1 f).ticks ≤ ((behindM M 0 f).ticks + (ta.map Tn.tk).length) + 2 := b5
    simp only [List.length_append, List.length_map] at b5 ⊢
    omega
theorem PB.step {M : Mach} {f : Fate} {ts : List Tn} (h : PB M f ts) (hs : f.settled = true) (t : TL) (ht : M.ticks + 10 < 1000000) (told : PyData) :
    ∃ M' u, act12 notW M told (thnD t) M' .none ∧ PB M' f (ts ++ [u]) ∧ Fx M M' ∧ Ev M M' [] 0 ∧ M'.ticks ≤ M.ticks + 4 ∧ u.mx = t.mx := by
  have hg : M.fates[t.i]? = some f := by
    unfold TL.i
    cases t.q with
    | false => exact h.f0
    | true => exact h.f1
  have hnm : lk M.named (.inr t.nm) = some t.i := by
    unfold TL.nm TL.i
    cases t.q with
    | false => exact h.z.np
    | true => exact h.z.nq
  obtain ⟨z1, fx1, ev1, tb1, ef, ek, em⟩ := h.z.mid t f
  have hl := h.z.fl
  have eM : thenM M t.i "z" (kOf t.m t.x) (bOf t.m t.x) f = { mid12 M t.i f with micros := (mid12 M t.i f).micros ++ [thMi f (tn12 M t).tk], ticks := (mid12 M t.i f).ticks + 1 } := by
    show putG _ _ _ _ = _
    unfold putG
    rw [if_pos hs]
    rfl
  refine ⟨_, tn12 M t, .inr (.inr (.inr (.inr (.inr (.inr ⟨t.nm, "z", kOf t.m t.x, bOf t.m t.x, t.i, f, rfl, hnm, hg, (fun _ => trivial), eM.symm, rfl⟩))))), ⟨?_, ?_, ?_, ?_⟩, fx1.trans ⟨rfl, rfl, rfl, rfl, rfl, rfl, rfl, rfl, rfl, rfl, rfl, rfl, UT.of rfl (by first | exact Nat.le_refl _ | exact Nat.le_succ _ | exact Nat.le_add_right ..)⟩, ev1.trans (Ev.of rfl), by show (mid12 M t.i f).ticks + 1 ≤ _; omega, rfl⟩
  · have z2 : PZ { mid12 M t.i f with micros := (mid12 M t.i f).micros ++ [thMi f (tn12 M t).tk], ticks := (mid12 M t.i f).ticks + 1 } (tn12 M t :: ts) := { z1 with }
    exact z2.perm (List.perm_append_singleton _ _).symm
  · show (mid12 M t.i f).fates[0]? = _
    rw [ef, List.getElem?_append_left (by omega)]; exact h.f0
  · show (mid12 M t.i f).fates[1]? = _
    rw [ef, List.getElem?_append_left (by omega)]; exact h.f1
  · show (mid12 M t.i f).micros ++ _ = _
    rw [em, h.mi, List.map_append]; rfl
theorem PB.steps {f : Fate} (hs : f.settled = true) (told : PyData) : ∀ (l : List TL) (M : Mach) (ts : List Tn), PB M f ts → M.ticks + 5 * l.length + 10 < 1000000 →
    ∃ M' us, Fresh (act12 notW) told M (l.map thnD) M' ∧ PB M' f (ts ++ us) ∧ Fx M M' ∧ Ev M M' [] 0 ∧ M'.ticks ≤ M.ticks + 5 * l.length ∧ us.map Tn.mx = l.map TL.mx
  | [], M, ts, h, ht => ⟨M, [], .nil M, by rw [List.append_nil]; exact h, Fx.refl M, Ev.refl M, Nat.le_refl _, rfl⟩
  | t :: l, M, ts, h, ht => by
    rw [List.length_cons] at ht
    obtain ⟨M1, u, s1, s2, s3, s4, s5, s6⟩ := h.step hs t (by omega) told
    obtain ⟨M', us, r1, r2, r3, r4, r5, r6⟩ := PB.steps hs told l M1 (ts ++ [u]) s2 (by omega)
    exact ⟨M', u :: us, .cons s1 (by omega) r1, by rw [List.append_assoc] at r2; exact r2, s3.trans r3, s4.trans r4, by rw [List.length_cons]; omega, by rw [List.map_cons, List.map_cons, s6, r6]⟩
end My

set_option Elab.async false
set_option linter.all false
set_option maxRecDepth 100000
set_option maxHeartbeats 4000000
namespace My
open PySem L2 PyProof.Rows
/-! ### the whole run -/
def noER : Mach → Bool → Mach → Prop := fun _ _ _ => False
abbrev down12 : Mach → Mach → Prop := downG (fun M M' => ∃ k, Micros mic12 k M M') noER
theorem nu_said : ¬ (("unhandled" : Str) = "said") := by decide +kernel
theorem nu_micro : ¬ (("unhandled" : Str) = "micro") := by decide +kernel
theorem tellAll_ev : ∀ (ks : List Key) (M : Mach), M.clock = 0 → Ev M (tellAllM M ks) [] 0
  | [], M, _ => Ev.refl M
  | k :: r, M, hc => by
    have h1 : Ev M (tellM M [.str "unhandled", keyD k]) [] 0 := Ev.quiet (x := "unhandled") (d2 := keyD k) (r := []) (by show M.events ++ [.tuple (.int M.clock :: _)] = _; rw [hc]) nu_said nu_micro
    exact h1.trans (tellAll_ev r _ hc)
theorem tellAll_fx : ∀ (ks : List Key) (M : Mach), Fr M (tellAllM M ks) := fr_tellAll
structure Gd (M M' : Mach) : Prop where
  op : M'.opened = M.opened
  qu : M'.queues = M.queues
  be : M'.bears = M.bears
  bu : M'.busy = M.busy
  cl : M'.clock = M.clock
  ak : M'.asking = M.asking
  ti : M'.timers = M.timers
  il : M'.idles = M.idles
  so : M'.soonest = M.soonest
theorem down_run {M : Mach} {f : Fate} {ts : List Tn} (h : PB M f ts) (hs : f.settled = true) (ho : M.opened = []) (hd : M.done + ts.length ≤ M.flood) (ht : M.ticks + 5 * ts.length + 1000 < 400000) (hu : M.untold.length ≤ M.ticks) :
    ∃ M', down12 M M' ∧ M'.micros = [] ∧ Gd M M' ∧ Ev M M' (ts.flatMap fun t => saysT f t.m t.x) ts.length ∧ M'.ticks ≤ 2 * (M.ticks + 5 * ts.length) := by
  have hma : ∃ Ma, ((M.micros = [] ∧ Ma = M) ∨ (M.micros ≠ [] ∧ ∃ k, Micros mic12 k M Ma)) ∧ Ma.micros = [] ∧ Gd M Ma ∧ Ev M Ma (ts.flatMap fun t => saysT f t.m t.x) ts.length ∧ Ma.ticks ≤ M.ticks + 5 * ts.length ∧ UT M Ma := by
    cases ts with
    | nil =>
      have hm : M.micros = [] := h.mi
      exact ⟨M, .inl ⟨hm, rfl⟩, hm, ⟨rfl, rfl, rfl, rfl, rfl, rfl, rfl, rfl, rfl⟩, Ev.refl M, by omega, UT.refl M⟩
    | cons t r =>
      obtain ⟨k, Ma, a1, a2, a3, a4, ⟨b1, b2, b3, b4, b5, b6, b7, b8, b9⟩, ut⟩ := micros_run hs (t :: r) M h.mi h.z.cl h.z.st hd (fun u hu => ⟨h.z.fr _ (h.z.al u hu).1 (h.z.al u hu).2, h.z.t2 _ (h.z.al u hu).1⟩) h.z.nd (by omega)
      exact ⟨Ma, .inr ⟨(by rw [h.mi]; exact fun z => by cases z), k, a1⟩, a2, ⟨b1, b2, b3, b4, b5, b6, b7, b8, b9⟩, a3, a4, ut⟩
  obtain ⟨Ma, a1, a2, g, ev, tb, ut⟩ := hma
  have hu2 := ut hu
  have fr := fr_tellAll (Ma.untold.map (·.1)) Ma
  have e : (if Ma.micros.isEmpty = true then untoldM Ma else Ma) = untoldM Ma := by rw [a2]; rfl
  refine ⟨{ untoldM Ma with done := 0, flooded := false }, ⟨0, untoldM Ma, .last ⟨Ma, a1, by omega, e.symm⟩ ?_, rfl⟩, ?_, ?_, ?_, ?_⟩
  · show (tellAllM Ma _).opened = []
    rw [fr.op, g.op]; exact ho
  · show (tellAllM Ma _).micros = []
    rw [fr.mi]; exact a2
  · exact ⟨fr.op.trans g.op, fr.qu.trans g.qu, fr.be.trans g.be, fr.bu.trans g.bu, fr.cl.trans g.cl, fr.ak.trans g.ak, fr.ti.trans g.ti, fr.il.trans g.il, fr.so.trans g.so⟩
  · have h2 : Ev Ma { untoldM Ma with done := 0, flooded := false } [] 0 := by
      obtain ⟨es, q⟩ := tellAll_ev (Ma.untold.map (·.1)) Ma (g.cl.trans h.z.cl)
      exact ⟨es, q⟩
    have := ev.trans h2
    rw [List.append_nil, Nat.add_zero] at this
    exact this
  · show (tellAllM Ma (Ma.untold.map (·.1))).ticks ≤ _
    rw [tellAllM_ticks, List.length_map]
    omega
def endD12 (kp : Bool) (x : Str) : PyData := if kp = true then kpD "p" (.str x) else brD "p" (.str x)
def endF12 (kp : Bool) (x : Str) : Fate := if kp = true then .kept (.str x) else .brk (.str x)
def todo12 (l1 l2 l3 : List TL) (kp : Bool) (x : Str) : List PyData := ([mkD "p", mkD "q"] ++ l1.map thnD ++ [foD "q" "p"] ++ l2.map thnD) ++ ([endD12 kp x, sayD "here"] ++ l3.map thnD ++ [sayD "end"])
def order12 (l1 l2 l3 : List TL) : List TL := (l1.filter fun t => !t.q) ++ ((l1 ++ l2).filter fun t => t.q) ++ (l2.filter fun t => !t.q) ++ l3
theorem PB.tell {M : Mach} {f : Fate} {ts : List Tn} (h : PB M f ts) (ds : List PyData) : PB (tellM M ds) f ts := ⟨{ h.z with }, h.f0, h.f1, h.mi⟩
theorem len_two : ∀ l : List TL, l.length = (l.filter fun t => t.q).length + (l.filter fun t => !t.q).length
  | [] => rfl
  | t :: l => by
    have := len_two l
    cases hq : t.q <;> simp [hq] <;> omega
theorem work12 {M : Mach} (told : PyData) (l1 l2 l3 : List TL) (kp : Bool) (x : Str) (hl : l1.length + l2.length + l3.length ≤ 20) (hf : M.fates = []) (hn : M.named = []) (hk : M.takers = []) (hst : M.stories = []) (hc : M.clock = 0) (hmi : M.micros = []) (ht : M.ticks ≤ 100) :
    ∃ M' ts, Fresh (act12 notW) told M (todo12 l1 l2 l3 kp x) M' ∧ PB M' (endF12 kp x) ts ∧ Fx M M' ∧ Ev M M' [.str "here", .str "end"] 0 ∧ M'.ticks ≤ 400 ∧ ts.map Tn.mx = (order12 l1 l2 l3).map TL.mx := by
  have hs : (endF12 kp x).settled = true := by cases kp <;> rfl
  let M1 := makeP M "p"
  let M2 := makeP M1 "q"
  have npq : ¬ (sK "p" = sK "q") := fun z => (show ¬ (("p" : Str) = "q") by decide +kernel) (Sum.inr.inj z)
  have ef : M2.fates = [.opn, .opn] := by
    show (M.fates ++ [Fate.opn]) ++ [Fate.opn] = _
    rw [hf]; rfl
  have en : M2.named = pt (pt [] (sK "p") 0) (sK "q") 1 := by
    show pt (pt M.named (sK "p") M.fates.length) (sK "q") (M.fates ++ [Fate.opn]).length = _
    rw [hn, hf]; rfl
  have z2 : PZ M2 [] := ⟨by rw [ef]; decide, fun k h2 hk => by rw [ef] at hk; exact absurd hk (by show ¬ k < 2; omega), by rw [en, lk_pt, if_neg npq, lk_pt, if_pos rfl], by rw [en, lk_pt, if_pos rfl], fun k _ => by rw [show M2.takers = [] from hk]; rfl, hst, hc, List.nodup_nil, fun t h => nomatch h⟩
  have p2 : PA M2 [] [] [] false := ⟨z2, by rw [ef]; rfl, by rw [ef]; rfl, by rw [show M2.takers = [] from hk]; rfl, by rw [show M2.takers = [] from hk]; rfl, fun _ => rfl, hmi⟩
  have t2 : M2.ticks = M.ticks + 1 + 1 := rfl
  obtain ⟨M3, a3, q3, b3, f3, p3, x3, v3, t3, c31, c32, c33⟩ := p2.steps told l1 M2 [] [] [] (by omega)
  have hb3 := p3.fb rfl
  subst hb3
  obtain ⟨M4, f4, p4, x4, v4, t4⟩ := p3.follow (by omega) told
  obtain ⟨M5, a5, q5, b5, f5, p5, x5, v5, t5, c51, c52, c53⟩ := p4.steps told l2 M4 a3 q3 [] (by omega)
  have hlen : (a5 ++ q5 ++ b5).length = l1.length + l2.length := by
    have e1 := congrArg List.length c31
    have e2 := congrArg List.length c32
    have e3 := congrArg List.length c51
    have e4 := congrArg List.length c52
    have e5 := congrArg List.length c53
    have s1 := len_two l1
    have s2 := len_two l2
    simp only [List.length_append, List.length_map, List.length_nil, List.map_nil, if_true, reduceIte, Bool.false_eq_true, Bool.true_eq_false] at e1 e2 e3 e4 e5 ⊢
    omega
  obtain ⟨M6, s6, p6, x6, v6, t6⟩ := p5.settle hs (by omega)
  have a6 : act12 notW M5 told (endD12 kp x) M6 .none := by
    cases kp with
    | true => exact .inr (.inr (.inr (.inl ⟨"p", .str x, 0, rfl, p5.z.np, s6, rfl⟩)))
    | false => exact .inr (.inr (.inr (.inr (.inl ⟨"p", .str x, 0, rfl, p5.z.np, s6, rfl⟩))))
  have p7 := p6.tell [.str "said", .str "here"]
  have a7 : act12 notW M6 told (sayD "here") (tellM M6 [.str "said", .str "here"]) .none := .inl ⟨.str "here", rfl, rfl, rfl⟩
  have v7 : Ev M6 (tellM M6 [.str "said", .str "here"]) [.str "here"] 0 := Ev.said (r := []) (by show M6.events ++ [.tuple (.int M6.clock :: _)] = _; rw [p6.z.cl])
  have t7 : (tellM M6 [.str "said", .str "here"]).ticks = M6.ticks + 1 := rfl
  obtain ⟨M8, us, f8, p8, x8, v8, t8, c8⟩ := p7.steps hs told l3 (tellM M6 [.str "said", .str "here"]) _ (by omega)
  have p9 := p8.tell [.str "said", .str "end"]
  have a9 : act12 notW M8 told (sayD "end") (tellM M8 [.str "said", .str "end"]) .none := .inl ⟨.str "end", rfl, rfl, rfl⟩
  have v9 : Ev M8 (tellM M8 [.str "said", .str "end"]) [.str "end"] 0 := Ev.said (r := []) (by show M8.events ++ [.tuple (.int M8.clock :: _)] = _; rw [p8.z.cl])
  have t9 : (tellM M8 [.str "said", .str "end"]).ticks = M8.ticks + 1 := rfl
  have fxt : ∀ (M : Mach) ds, Fx M (tellM M ds) := fun _ _ => ⟨rfl, rfl, rfl, rfl, rfl, rfl, rfl, rfl, rfl, rfl, rfl, rfl, UT.of rfl (Nat.le_succ _)⟩
  have fxm : ∀ (M : Mach) y, Fx M (makeP M y) := fun _ _ => ⟨rfl, rfl, rfl, rfl, rfl, rfl, rfl, rfl, rfl, rfl, rfl, rfl, UT.of rfl (Nat.le_succ _)⟩
  have act1 : act12 notW M told (mkD "p") M1 .none := .inr (.inr (.inl ⟨"p", rfl, rfl, rfl⟩))
  have act2 : act12 notW M1 told (mkD "q") M2 .none := .inr (.inr (.inl ⟨"q", rfl, rfl, rfl⟩))
  have g1 : Fresh (act12 notW) told M ([mkD "p", mkD "q"] ++ l1.map thnD ++ [foD "q" "p"] ++ l2.map thnD) M5 :=
    (((Fresh.cons act1 (show M.ticks + 1 < _ by omega) (.cons act2 (by omega) (.nil M2))).app f3).app (.cons f4 (by omega) (.nil M4))).app f5
  have g2 : Fresh (act12 notW) told M5 ([endD12 kp x, sayD "here"] ++ l3.map thnD ++ [sayD "end"]) (tellM M8 [.str "said", .str "end"]) :=
    ((Fresh.cons a6 (by omega) (.cons a7 (by omega) (.nil _))).app f8).app (.cons a9 (by omega) (.nil _))
  refine ⟨_, _, g1.app g2, p9, ?_, ?_, by omega, ?_⟩
  · exact (fxm M "p").trans ((fxm M1 "q").trans (x3.trans (x4.trans (x5.trans (x6.trans ((fxt M6 _).trans (x8.trans (fxt M8 _))))))))
  · have e12 : Ev M M2 [] 0 := Ev.of rfl
    exact e12.trans (v3.trans (v4.trans (v5.trans (v6.trans (v7.trans (v8.trans v9))))))
  · unfold order12
    simp only [List.map_append, List.filter_append]
    rw [c8, c51, c52, c53, c31, c32]
    simp
def says12 (f : Fate) (l : List TL) : List PyData := l.flatMap fun t => saysT f t.m t.x
theorem says_mx (f : Fate) {ts : List Tn} {l : List TL} (h : ts.map Tn.mx = l.map TL.mx) : (ts.flatMap fun t => saysT f t.m t.x) = says12 f l := by
  have e1 : (ts.flatMap fun t => saysT f t.m t.x) = (ts.map Tn.mx).flatMap fun y => saysT f y.1 y.2 := by rw [List.flatMap_map]; rfl
  have e2 : says12 f l = (l.map TL.mx).flatMap fun y => saysT f y.1 y.2 := by unfold says12; rw [List.flatMap_map]; rfl
  rw [e1, e2, h]
theorem nt_said : ¬ (("task" : Str) = "said") := by decide +kernel
theorem nt_micro : ¬ (("task" : Str) = "micro") := by decide +kernel
theorem run12 (l1 l2 l3 : List TL) (kp : Bool) (x : Str) (hl : l1.length + l2.length + l3.length ≤ 20) :
    ∃ M', Turns (act12 notW) down12 400 (postM M00 0 (.str "work") (todo12 l1 l2 l3 kp x)) 1 M' ∧ (∀ d ∈ M'.events, IsEv d) ∧ (M'.events.filter selS).map thE = [.str "here", .str "end"] ++ says12 (endF12 kp x) (order12 l1 l2 l3) ∧ (M'.events.filter selMc).length = l1.length + l2.length + l3.length ∧ M'.ticks ≤ 2000 := by
  have q1 := q00.post (.str "work") (todo12 l1 l2 l3 kp x)
  have ho : order12 l1 l2 l3 = order12 l1 l2 l3 := rfl
  have hol : (order12 l1 l2 l3).length = l1.length + l2.length + l3.length := by
    have s1 := len_two l1
    have s2 := len_two l2
    unfold order12
    simp only [List.length_append, List.filter_append]
    omega
  let M1 := postM M00 0 (.str "work") (todo12 l1 l2 l3 kp x)
  let w := wkP M00 (.str "work") (todo12 l1 l2 l3 kp x)
  let Mb := begunM M1 0 w [] "least"
  have q1 : Q1 M1 [w] := q1
  obtain ⟨Mw, ts, f1, p1, x1, v1, t1, c1⟩ := work12 (M := Mb) .none l1 l2 l3 kp x hl rfl rfl rfl rfl rfl rfl (show 1 + 1 ≤ 100 by decide)
  have hts : ts.length = l1.length + l2.length + l3.length := by
    have := congrArg List.length c1
    rw [List.length_map, List.length_map] at this
    omega
  have hs : (endF12 kp x).settled = true := by cases kp <;> rfl
  have task : Task (act12 notW) M1 Mw := q1.task rfl rfl (show 1 + 1 < 1000000 by decide) f1
  have qb : Q1 Mb [] := q1.begun
  have vb : Ev M1 Mb [] 0 := Ev.quiet (x := "task") (d2 := .int (w.num : Int)) (r := [.int ((0 : Nat) : Int), .str "least"]) rfl nt_said nt_micro
  have hfl : Mw.flood = 100 := x1.fl
  have hdn : Mw.done = 0 := x1.dn
  obtain ⟨M', d1, d2, g, v2, tz⟩ := down_run p1 hs (x1.op.trans qb.op) (by omega) (by omega) (x1.ut (Nat.zero_le _))
  rw [says_mx _ c1, hts] at v2
  have stop : ∀ {M : Mach}, Q1 M [] → Turns (act12 notW) down12 399 M 0 M := fun h => .stop h.stop
  have fin : ∀ {M : Mach} {ss : List PyData} {k : Nat}, Ev M1 M ss k → (∀ d ∈ M.events, IsEv d) ∧ (M.events.filter selS).map thE = ss ∧ (M.events.filter selMc).length = k := fun {M ss k} ⟨es, h1, h2, h3, h4⟩ => by
    have e : M.events = es := by rw [h1]; rfl
    rw [e]; exact ⟨h2, h3, h4⟩
  by_cases hq : Mw.micros = [] ∧ Mw.untold = []
  · have hts0 : ts = [] := by
      have := p1.mi
      rw [hq.1] at this
      cases ts with
      | nil => rfl
      | cons _ _ => cases this
    have hnil : order12 l1 l2 l3 = [] := by
      rw [hts0, List.length_nil] at hts
      exact List.eq_nil_of_length_eq_zero (by omega)
    have qw : Q1 Mw [] := ⟨x1.qu.trans qb.q, x1.be.trans qb.be, x1.bu.trans qb.bu, x1.cl.trans qb.cl, x1.ak.trans qb.ak, x1.ti.trans qb.ti, x1.il.trans qb.il, x1.so.trans qb.so, hq.1, x1.op.trans qb.op⟩
    refine ⟨Mw, .more (.quick q1.calm task hq.1 qw.op hq.2) (stop qw), ?_⟩
    have := fin (vb.trans v1)
    rw [hnil]
    refine ⟨this.1, by rw [this.2.1]; rfl, by rw [this.2.2]; rw [hts0, List.length_nil] at hts; omega, by omega⟩
  · have hdn : Mw.micros ≠ [] ∨ Mw.opened ≠ [] ∨ Mw.untold ≠ [] := by
      by_cases h1 : Mw.micros = []
      · exact .inr (.inr fun z => hq ⟨h1, z⟩)
      · exact .inl h1
    have qz : Q1 M' [] := ⟨g.qu.trans (x1.qu.trans qb.q), g.be.trans (x1.be.trans qb.be), g.bu.trans (x1.bu.trans qb.bu), g.cl.trans (x1.cl.trans qb.cl), g.ak.trans (x1.ak.trans qb.ak), g.ti.trans (x1.ti.trans qb.ti), g.il.trans (x1.il.trans qb.il), g.so.trans (x1.so.trans qb.so), d2, g.op.trans (x1.op.trans qb.op)⟩
    refine ⟨M', .more (.down q1.calm task hdn d1) (stop qz), ?_⟩
    have := fin ((vb.trans v1).trans v2)
    rw [List.nil_append] at this
    exact ⟨this.1, this.2.1, by rw [this.2.2]; omega, by omega⟩
end My

set_option Elab.async false
set_option linter.all false
set_option maxRecDepth 100000
set_option maxHeartbeats 4000000
namespace My
open PySem L2 PyProof.Rows
theorem next_of {D : Ends} {σ : L2.St} {H : Hp} (h : D.nx σ H) : tNext D σ H := h
theorem op_of {r : R2} {ta tb : TE} {σ : L2.St} {H : Hp} {Q : VK} (h : ta σ H fun x H1 => tb σ H1 fun y H2 => r x y H2 Q) : tOp r ta tb σ H Q := h
theorem nilOf {σ : L2.St} {H : Hp} {Q : List V → Hp → Prop} (h : Q [] H) : tNil σ H Q := h
theorem par3_of {ta : TA} {i j l : Nat} {b : TS} {D : Ends} {σ : L2.St} {H : Hp} (h : ta σ H fun vs H1 => ∃ u v w, vs = [u, v, w] ∧ b D (((σ.set i (some u)).set j (some v)).set l (some w)) H1) : tSeq (tPar3 i j l ta) b D σ H := h
/-! ### more expressions that make data -/
theorem Lit.dr {H H' : Hp} {d l : Addr} {ms : List Int} {n n' L L' b : Int} {v : V} {t : PyData} (h : Lit H v t) (p : Pen H d l ms n L) (y : Dr H H' d l ms n n' L' b) : Lit H' v t :=
  h.keep (fun a xs e => y.kp a _ e (ne_of e p.dc (by intro z; cases z))) (fun a xs e => y.kp a _ e (ne_of e p.dc (by intro z; cases z)))
theorem LitAll.dr {H H' : Hp} {d l : Addr} {ms : List Int} {n n' L L' b : Int} {v : List V} {t : List PyData} (h : LitAll H v t) (p : Pen H d l ms n L) (y : Dr H H' d l ms n n' L' b) : LitAll H' v t :=
  h.keep (fun a xs e => y.kp a _ e (ne_of e p.dc (by intro z; cases z))) (fun a xs e => y.kp a _ e (ne_of e p.dc (by intro z; cases z)))
theorem LitAll.drop {H : Hp} : ∀ {vs : List V} {ds : List PyData} (n : Nat), LitAll H vs ds → LitAll H (vs.drop n) (ds.drop n)
  | _, _, 0, h => h
  | _, _, n + 1, .nil => .nil
  | _, _, n + 1, .cons _ t => t.drop n
theorem LitAll.take {H : Hp} : ∀ {vs : List V} {ds : List PyData} (n : Nat), LitAll H vs ds → LitAll H (vs.take n) (ds.take n)
  | _, _, 0, _ => .nil
  | _, _, n + 1, .nil => .nil
  | _, _, n + 1, .cons h t => .cons h (t.take n)
theorem LitAll.back {H : Hp} : ∀ {vs : List V} {ds : List PyData} {i : Nat} {v : V}, LitAll H vs ds → vs[i]? = some v → ∃ d, ds[i]? = some d ∧ Lit H v d
  | _, _, _, _, .nil, e => by simp at e
  | _, _, 0, _, .cons h _, e => by simp at e; subst e; exact ⟨_, rfl, h⟩
  | _, _, i + 1, v, .cons _ t, e => by
    obtain ⟨d, h1, h2⟩ := LitAll.back (i := i) (v := v) t (by simpa using e)
    exact ⟨d, by simpa using h1, h2⟩
theorem lit_pair {H : Hp} : ∀ {vs : List V} {ds : List PyData}, LitAll H vs ds → noLL ds = true → Paired (LitN H) vs ds
  | _, _, .nil, _ => .nil
  | _, d :: ds, .cons h t, n => by
    rw [noLL, Bool.and_eq_true] at n
    exact .cons ⟨n.1, h⟩ (lit_pair t n.2)
theorem noLL_all : ∀ {ds : List PyData}, noLL ds = true → ∀ d ∈ ds, noL d = true
  | [], _, _, h => nomatch h
  | d :: ds, n, x, h => by
    rw [noLL, Bool.and_eq_true] at n
    rcases List.mem_cons.mp h with rfl | h
    · exact n.1
    · exact noLL_all n.2 x h
theorem noLL_of : ∀ {ds : List PyData}, (∀ d ∈ ds, noL d = true) → noLL ds = true
  | [], _ => rfl
  | d :: ds, h => by rw [noLL, h d (List.mem_cons_self ..), noLL_of fun x hx => h x (List.mem_cons_of_mem _ hx)]; rfl
section
variable {H0 : Hp} {σ : L2.St}
theorem mh_non : MkH H0 σ (tC .non) .none := fun H Q _ k => k _ _ (Same.refl _) .non
theorem mh_bl {b : Bool} : MkH H0 σ (tC (.bl b)) (.bool b) := fun H Q _ k => k _ _ (Same.refl _) (.bl b)
theorem MkH.mono {H1 : Hp} {te : TE} {d : PyData} (h : MkH H0 σ te d) (s : Same H0 H1) : MkH H1 σ te d := fun H Q s1 k => h H Q (s.trans s1) k
/-- int of a bool -/
theorem mh_intB {ta : TA} {b : Bool} (h : ∀ (H : Hp) (Q : List V → Hp → Prop), Same H0 H → Q [.bl b] H → ta σ H Q) : MkH H0 σ (tCB (fun xs H Q => (∃ i, xs = [V.int i] ∧ Q (V.int i) H) ∨ ∃ k, xs = [V.bl k] ∧ Q (V.int (if k = true then 1 else 0)) H) ta) (.int ((if b = true then 1 else 0 : Nat) : Int)) := fun H Q s k =>
  h H _ s (.inr ⟨b, rfl, k _ _ (Same.refl _) (by cases b <;> exact .int _)⟩)
/-- a tuple's part -/
theorem mh_ixT {K : PySem.W.Frag} {i n : Nat} {ti : TE} {v : V} {ds : List PyData} {d : PyData} (hσ : σ[i]? = some (some v)) (hv : Lit H0 v (.tuple ds)) (hi : MkH H0 σ ti (.int (n : Int))) (hd : ds[n]? = some d) : MkH H0 σ (tOp (rIxT K) (tVar i) ti) d := fun H Q s k =>
  ⟨v, hσ, hi H _ s fun u H1 s1 l1 => by
    cases l1
    cases hv with | @tup a xs _ e hx =>
    obtain ⟨y, hy, ly⟩ := hx.at hd
    exact ⟨a, xs, (n : Int), y, rfl, rfl, SqT.of (s1 _ _ (s _ _ e)), atI_nat hy, k _ _ s1 (ly.same (s.trans s1))⟩⟩
theorem lit_stp {c : CC} {H H' : Hp} {L L' : Ly} {us : List V} {ds : List PyData} (h : LitAll H us ds) (n : noLL ds = true) (s : Stp H L H' L') (r : CR c H L) : LitAll H' us ds := h.keepT (fun a xs e => s.kept r _ _ e trivial) n
theorem lit_oth {H : Hp} {D : Addr} {xs ys : List V} {us : List V} {ds : List PyData} (h : LitAll H us ds) (n : noLL ds = true) (e : H D = some (.lst xs)) : LitAll (upd H D (.lst ys)) us ds := h.keepT (fun a zs e' => by
  rw [upd_ne (fun z => by subst z; rw [e] at e'; cases e')]; exact e') n
theorem Tl.oth {K : PySem.W.Frag} {c : CC} {H : Hp} {d l : Addr} {ms : List Int} {nn LL : Int} {lp : Addr} {L : Ly} {M : Mach} (h : Tl K c H d l ms nn LL lp L M []) {D : Addr} {xs ys : List V} (e : H D = some (.lst xs)) (r : L.role D = none) (hl : D ≠ l) : Tl K c (upd H D (.lst ys)) d l ms nn LL lp L M [] where
  isl := by
    obtain ⟨ldx, q⟩ := h.isl
    exact ⟨ldx, by rw [upd_ne (fun z => by subst z; rw [e] at q; cases q)]; exact q⟩
  m := h.m.oth e nf_l r
  rlp := h.rlp
  p := ⟨by rw [upd_ne (ne_of h.p.dc e (by intro z; cases z))]; exact h.p.dc, by rw [upd_ne (fun z => hl z.symm)]; exact h.p.ls, h.p.n0, h.p.l0⟩
  rd := h.rd
  rl := h.rl
  os := fun q hq => nomatch hq
/-- tuple(a list) -/
theorem mh_tupL {K : PySem.W.Frag} {te : TE} {ds : List PyData} (h : MkH H0 σ te (.list ds)) : MkH H0 σ (tCB (fun xs H_1 Q => ∃ p ys, xs = [V.ref p] ∧ ((SqL K H_1 p ys ∧ ∀ (l : Addr), H_1 l = none → Q (V.ref l) (upd H_1 l (HO.tup ys))) ∨ SqT K H_1 p ys ∧ Q (V.ref p) H_1)) (tCons te tNil)) (.tuple ds) := fun H Q s k =>
  h H _ s fun v H1 s1 l1 => by
    cases l1 with | lst e hx =>
    exact ⟨_, _, rfl, .inl ⟨SqL.of e, fun q hq => k _ _ (s1.trans (Same.new (Same.refl _) hq)) (.tup upd_same (hx.same (Same.new (Same.refl _) hq)))⟩⟩
/-- a slice of a list -/
theorem mh_sl {K : PySem.W.Frag} {tl : TE} {plo phi : TO} {i j : Option Int} {ds : List PyData} {a b : Nat} (ht : MkH H0 σ tl (.list ds)) (hlo : ∀ (H : Hp) (Q : Option Int → Hp → Prop), Q i H → plo σ H Q) (hhi : ∀ (H : Hp) (Q : Option Int → Hp → Prop), Q j H → phi σ H Q)
    (ha : HT.sIx ds.length 0 i = a) (hb : HT.sIx ds.length ds.length j = b) : MkH H0 σ (tSl (rSlL K) tl plo phi) (.list ((ds.drop a).take (b - a))) := fun H Q s k =>
  ht H _ s fun v H1 s1 l1 => by
    cases l1 with | @lst p xs _ e hx =>
    refine hlo _ _ (hhi _ _ ⟨p, xs, rfl, SqL.of e, fun q hq => ?_⟩)
    have s2 := Same.new (o := .lst (cutV xs i j)) (Same.refl H1) hq
    have e2 : cutV xs i j = (xs.drop a).take (b - a) := by
      unfold cutV
      rw [hx.len, ha, hb]
    rw [e2] at s2 ⊢
    exact k _ _ (s1.trans s2) (.lst upd_same (((hx.drop a).take (b - a)).same s2))
theorem part_var {i : Nat} {z : Int} (hσ : σ[i]? = some (some (.int z))) (H : Hp) (Q : Option Int → Hp → Prop) (h : Q (some z) H) : tPart (tVar i) σ H Q := ⟨_, hσ, z, rfl, h⟩
theorem part_int {z : Int} (H : Hp) (Q : Option Int → Hp → Prop) (h : Q (some z) H) : tPart (tC (.int z)) σ H Q := ⟨z, rfl, h⟩
/-- t + u of tuples -/
theorem mh_catT {K : PySem.W.Frag} {ta tb : TE} {xs ys : List PyData} (ha : MkH H0 σ ta (.tuple xs)) (hb : MkH H0 σ tb (.tuple ys)) (hne : xs ≠ []) (hl : xs.length + ys.length ≤ 1000) : MkH H0 σ (tOp (rCatT K) ta tb) (.tuple (xs ++ ys)) := fun H Q s k =>
  ha H _ s fun v H1 s1 l1 => hb H1 _ (s.trans s1) fun u H2 s2 l2 => by
    cases l1 with | @tup p us _ e1 h1 =>
    cases l2 with | @tup q ws _ e2 h2 =>
    have n1 := h1.len
    have n2 := h2.len
    refine ⟨p, q, us, ws, rfl, rfl, SqT.of (s2 _ _ e1), SqT.of e2, fun z => hne ?_, by rw [n1, n2, PySem.sizeLine_eq]; omega, fun z => ?_, fun _ r hr => ?_⟩
    · subst z
      exact List.eq_nil_of_length_eq_zero n1.symm
    · subst z
      have : ys = [] := List.eq_nil_of_length_eq_zero n2.symm
      subst this
      exact k _ _ (s1.trans s2) (by rw [List.append_nil]; exact .tup (s2 _ _ e1) (h1.same s2))
    · have s3 := Same.new (o := .tup (us ++ ws)) (Same.refl H2) hr
      exact k _ _ ((s1.trans s2).trans s3) (.tup upd_same (((h1.same s2).app h2).same s3))
/-- xs + ys of lists -/
theorem mh_catL {ta tb : TE} {xs ys : List PyData} (ha : MkH H0 σ ta (.list xs)) (hb : MkH H0 σ tb (.list ys)) (hl : xs.length + ys.length ≤ 1000) : MkH H0 σ (tOp rCat ta tb) (.list (xs ++ ys)) := fun H Q s k =>
  ha H _ s fun v H1 s1 l1 => hb H1 _ (s.trans s1) fun u H2 s2 l2 => by
    cases l1 with | @lst p us _ e1 h1 =>
    cases l2 with | @lst q ws _ e2 h2 =>
    refine ⟨p, q, us, ws, rfl, rfl, s2 _ _ e1, e2, by rw [h1.len, h2.len, PySem.sizeLine_eq]; omega, fun r hr => ?_⟩
    have s3 := Same.new (o := .lst (us ++ ws)) (Same.refl H2) hr
    exact k _ _ ((s1.trans s2).trans s3) (.lst upd_same (((h1.same s2).app h2).same s3))
/-- a if t else b, the test's answer known -/
theorem mh_if {tt : TT} {ta tb : TE} {b : Bool} {d e : PyData} (ht : ∀ (H : Hp) (Q : Bool → Hp → Prop), Q b H → tt σ H Q) (ha : b = true → MkH H0 σ ta d) (hb : b = false → MkH H0 σ tb e) : MkH H0 σ (tIf tt ta tb) (if b = true then d else e) := fun H Q s k =>
  ht H _ (by
    cases b with
    | true => exact iteT (ha rfl H Q s fun v H' s' l => k v H' s' (by rw [if_pos rfl]; exact l))
    | false => exact iteF (hb rfl H Q s fun v H' s' l => k v H' s' (by rw [if_neg (by decide)]; exact l)))
/-- a comprehension over a list of written data -/
theorem mh_lc {K : PySem.W.Frag} {tl : TE} {tt : TT} {te : TE} {i : Nat} {ds : List PyData} (p : PyData → Bool) (f : PyData → PyData) (ht : MkH H0 σ tl (.list ds)) (hn : ds.length ≤ 1000) (hf : ∀ d ∈ ds, p d = true → noL (f d) = true)
    (hw : ∀ x, wipe ((wipe σ [i]).set i (some x)) [i] = wipe σ [i])
    (htt : ∀ x d H2 (Q : Bool → Hp → Prop), d ∈ ds → Same H0 H2 → Lit H2 x d → Q (p d) H2 → tt ((wipe σ [i]).set i (some x)) H2 Q)
    (hte : ∀ x d H2, d ∈ ds → p d = true → Same H0 H2 → Lit H2 x d → MkH H2 ((wipe σ [i]).set i (some x)) te (f d)) : MkH H0 σ (tLc (iList K tl) (gName i) tt te [i]) (.list ((ds.filter p).map f)) := fun H Q s k =>
  ht H _ s fun v H1 s1 l1 => by
    cases l1 with | @lst a xs _ e hx =>
    have hlen := hx.len
    refine ⟨a, rfl, ⟨_, SqL.of e⟩, fun D hD => ?_⟩
    refine lc_gen (i := i) firm_lit (fun j => p (ds.getD j .none)) (fun j => f (ds.getD j .none)) e hD (by omega) hw ?_ ?_
    · intro j x H2 hj s2 Y N hy hN
      obtain ⟨d, hd, ld⟩ := hx.back hj
      have eg : ds.getD j .none = d := by rw [List.getD_eq_getElem?_getD, hd]; rfl
      have hm := List.mem_of_getElem? hd
      rw [eg] at hy hN
      refine htt x d H2 _ hm ((s.trans s1).trans s2) (ld.same s2) ?_
      cases hb : p d with
      | true => exact iteT (hte x d H2 hm hb ((s.trans s1).trans s2) (ld.same s2) H2 _ (Same.refl _) fun y H4 s4 l4 => hy hb y H4 s4 ⟨hf d hm hb, l4⟩)
      | false => exact iteF (hN hb H2 (Same.refl _))
    · intro H' us s' e' pr
      rw [hlen, fts_list] at pr
      obtain ⟨l', _⟩ := lit_all pr
      exact k _ _ (s1.trans s') (.lst e' l')
end
/-- a comprehension over a list of plain data of the machine -/
theorem lc_dt {K : PySem.W.Frag} {a : Addr} {xs : List V} {ds : List PyData} {σ : L2.St} {H1 : Hp} {D : Addr} {Qd : Hp → Prop} {tt : TT} {te : TE} {i : Nat} (p : PyData → Bool) (f : PyData → PyData) (ha : H1 a = some (.lst xs)) (hD : H1 D = none) (hn : xs.length ≤ 1000000) (hw : ∀ x, wipe ((wipe σ [i]).set i (some x)) [i] = wipe σ [i])
    (dd : DtAll K H1 xs ds)
    (htt : ∀ x d H2 (Q : Bool → Hp → Prop), d ∈ ds → Same H1 H2 → Dt K H2 x d → Q (p d) H2 → tt ((wipe σ [i]).set i (some x)) H2 Q)
    (hte : ∀ x d H2 (Q : VK), d ∈ ds → p d = true → Same H1 H2 → Dt K H2 x d → (∀ y H3, Same H2 H3 → Dt K H3 y (f d) → Q y H3) → te ((wipe σ [i]).set i (some x)) H2 Q)
    (hd : ∀ H' us, Same H1 H' → H' D = some (.lst us) → DtAll K H' us ((ds.filter p).map f) → Qd H') :
    ∃ W : Nat → Nat → Hp → Prop, (∃ m, W 0 m (L2.upd H1 D (.lst []))) ∧ ∀ k m H, W k m H →
      ((Itl K a).stop k H ∧ Qd H) ∨ ((Itl K a).go k H ∧ ∃ Nx : Hp → Prop, (∀ H', Nx H' → ∃ m', m' < m ∧ W (k + 1) m' H') ∧ ∀ x H', (Itl K a).yld k H x H' → gName i x (wipe σ [i]) H' fun σ2 H2 => wipe σ2 [i] = wipe σ [i] ∧ tt σ2 H2 fun b H3 =>
        if b = true then te σ2 H3 fun y H4 => ∃ acc, H4 D = some (.lst acc) ∧ acc.length < sizeLine ∧ Nx (L2.upd H4 D (.lst (acc ++ [y]))) else Nx H3) := by
  refine lc_gen (i := i) (firm_dt (K := K)) (fun j => p (ds.getD j .none)) (fun j => f (ds.getD j .none)) ha hD hn hw ?_ ?_
  · intro j x H2 hx s2 Yk N hy hN
    obtain ⟨d, hdj, hdt⟩ := dd.back hx
    have eg : ds.getD j .none = d := by rw [List.getD_eq_getElem?_getD, hdj]; rfl
    have hm := List.mem_of_getElem? hdj
    rw [eg] at hy hN
    refine htt x d H2 _ hm s2 (hdt.same s2) ?_
    cases hb : p d with
    | true => exact iteT (hte x d H2 _ hm hb s2 (hdt.same s2) fun y H3 s3 dy => hy hb y H3 s3 dy)
    | false => exact iteF (hN hb H2 (Same.refl _))
  · intro H' us s e pr
    have q := dt_all pr
    rw [dd.len, fts_list] at q
    exact hd H' us s e q
/-- a comprehension over range(n), its walk read first -/
theorem rng_lc {ta : TA} {g : TG} {tt : TT} {te : TE} {vs : List Nat} {σ : L2.St} {H : Hp} {Q : VK} (h : ta σ H fun us H1 => ∃ j, us = [V.int j] ∧ -2 ^ 62 ≤ j ∧ j < 2 ^ 62 ∧ ∀ (D : Addr), H1 D = none → ∃ W : Nat → Nat → Hp → Prop, (∃ m, W 0 m (upd H1 D (HO.lst []))) ∧ ∀ (i m : Nat) (H : Hp), W i m H →
    (Itr 0 j.toNat).stop i H ∧ Q (V.ref D) H ∨ (Itr 0 j.toNat).go i H ∧ ∃ Nx : Hp → Prop, (∀ (H' : Hp), Nx H' → ∃ m', m' < m ∧ W (i + 1) m' H') ∧ ∀ (x : V) (H' : Hp), (Itr 0 j.toNat).yld i H x H' → g x (wipe σ vs) H' fun σ2 H2 => wipe σ2 vs = wipe σ vs ∧ tt σ2 H2 fun b H3 =>
      if b = true then te σ2 H3 fun y H4 => ∃ acc, H4 D = some (HO.lst acc) ∧ acc.length < sizeLine ∧ Nx (upd H4 D (HO.lst (acc ++ [y]))) else Nx H3) : tLc (iRng1 ta) g tt te vs σ H Q := h
/-! ### lists of texts are compared -/
theorem can_strs : ∀ {ds : List PyData}, (∀ d ∈ ds, ∃ x, d = .str x ∧ PyData.strOk x = true) → PyData.canLayAll0 ds = true ∧ PyData.depthAll ds ≤ 1
  | [], _ => ⟨rfl, Nat.zero_le _⟩
  | d :: ds, h => by
    obtain ⟨x, rfl, hx⟩ := h d (List.mem_cons_self ..)
    obtain ⟨h1, h2⟩ := can_strs (ds := ds) fun y hy => h y (List.mem_cons_of_mem _ hy)
    simp [PyData.canLayAll0, PyData.canLay0, PyData.depthAll, PyData.depth, hx, h1, h2]
theorem shp_strs {ds : List PyData} (h : ∀ d ∈ ds, ∃ x, d = .str x ∧ PyData.strOk x = true) : SeqAt.shaped (.list ds) = true ∧ PyData.eqv (.list ds) (.list ds) = true := by
  obtain ⟨h1, h2⟩ := can_strs h
  have h3 : PyData.canLay0 (.list ds) = true := by
    simp [PyData.canLay0, h1]
  refine ⟨?_, SeqAt.eqv_refl _ h3⟩
  unfold SeqAt.shaped
  rw [h3]
  simp [PyData.depth]
  omega
/-! ### scripts with scripts within -/
def gd2 (d : PyData) : Bool := decide ((deedB (cnt 4) d).isSome = true ∧ (deedB (cnt 4) d).getD 100 ≤ 8) && (decide (szD d ≤ 1000) && (noL d && decide (dpt d ≤ 3)))
theorem gd2_all : ∀ {ds : List PyData}, (∀ d ∈ ds, gd2 d = true) → ∃ k, sumO (ds.map (deedB (cnt 4))) = some k ∧ k ≤ 8 * ds.length ∧ szL ds ≤ 1000 * ds.length ∧ noLL ds = true ∧ dptL ds ≤ 3
  | [], _ => ⟨0, rfl, Nat.le_refl _, Nat.zero_le _, rfl, Nat.zero_le _⟩
  | d :: ds, h => by
    obtain ⟨k, h1, h2, h3, h4, h5⟩ := gd2_all (fun x hx => h x (List.mem_cons_of_mem _ hx))
    have g := h d (List.mem_cons_self ..)
    unfold gd2 at g
    simp only [Bool.and_eq_true, decide_eq_true_eq] at g
    obtain ⟨⟨g1, g1b⟩, g2, g3, g4⟩ := g
    cases hz : deedB (cnt 4) d with
    | none => rw [hz] at g1; cases g1
    | some j =>
      rw [hz] at g1b
      have g1b : j ≤ 8 := g1b
      refine ⟨j + k, ?_, ?_, ?_, ?_, ?_⟩
      · rw [List.map_cons, hz]
        show (sumO (ds.map (deedB (cnt 4)))).map (j + ·) = _
        rw [h1]; rfl
      · rw [List.length_cons]; omega
      · rw [szL, List.length_cons]; omega
      · rw [noLL, g3, h4]; rfl
      · rw [dptL]; omega
theorem okS_of2 {ds : List PyData} (h : ∀ d ∈ ds, gd2 d = true) (hl : ds.length ≤ 22) : OkS ds := by
  obtain ⟨k, h1, h1b, h2, h3, h4⟩ := gd2_all h
  refine ⟨?_, by rw [szD]; omega, h3, by rw [dpt]; omega⟩
  unfold isS
  rw [show cnt 5 (.tuple ds) = (sumO (ds.map (deedB (cnt 4)))).map (ds.length + ·) from rfl, h1]
  exact decide_eq_true (show ds.length + k ≤ 200 by omega)
end My

set_option Elab.async false
set_option linter.all false
set_option maxRecDepth 100000
set_option maxHeartbeats 4000000
namespace My
open PySem L2 PyProof.Rows
/-! ### a taker, as the law has it -/
def tkT (t : TL) : PyData := .tuple [.str t.nm, .int (t.m : Int), .str t.x, thnD t]
abbrev nTk : List Str := ["_law_held", "_law_word", "_law_called", "_law_mode", "_law_kept", "_law_broken", "_law_deed"]
def spTk (K : PySem.W.Frag) : Sp := fun vs H Q _ => ∃ (d l : Addr) (ms : List Int) (n L : Int) (x : Str), vs = [.ref d, .str x] ∧ Pen H d l ms n L ∧ n < 2 ^ 38 ∧
  ∀ (t : TL) (v : V) (n' L' : Int) (H' : Hp), t.x = x → t.m < 3 → Dr H H' d l ms n n' L' 4 → Lit H' v (tkT t) → Q v H'
section
variable {P : Program} {w : World} {K : PySem.W.Frag} {mg : Str → Option Value} {pB : Heap}
theorem scTk : FnScope nTk ["_law_held", "_law_word"] (d__law_taken).scope := ⟨rfl, rfl, rfl, by decide +kernel, rfl, by decide +kernel, by decide +kernel⟩
theorem ok_tk {f fD : Addr} {fd dD : FuncData} (F : FnDd K d__law_taken f fd) (GD : FnOk P w K mg pB CX0 1 fD dD ["_law_held", "_law_many"] spDraw) (CD : Cal K mg "_law_draw" fD dD ["_law_held", "_law_many"]) (mInt : mg "int" = none) : FnOk P w K mg pB CX0 2 f fd ["_law_held", "_law_word"] (spTk K) := by
  refine F.ok scTk (fun vs H Q E h => ?_) (fun cdv A outer s0 H vs Q E hr h => ?_)
  · obtain ⟨d, l, ms, n, L, x, rfl, _⟩ := h
    rfl
  · obtain ⟨d, l, ms, n, L, x, rfl, pn, hn, k⟩ := h
    have nd := scTk.nd
    refine ⟨_, PSs.nox (
      pss_cons (ps_par (by rfl) nd (i := 2) (j := 3) rfl rfl (by decide) rfl rfl (pa_cons (pe_ix ix_list (pe_lst (pa_cons pe_str (pa_cons pe_str (pa_cons pe_str pa_nil)))) (pe_call GD hr (by rfl) CD.m CD.k CD.b .nil pass0 (pa_cons (pv 0) (pa_cons pe_int pa_nil))) (fun _ _ => rfl)) (pa_cons (pe_call GD hr (by rfl) CD.m CD.k CD.b .nil pass0 (pa_cons (pv 0) (pa_cons pe_int pa_nil))) pa_nil)) (by rfl)) (
      pss_cons (ps_par (by rfl) nd (i := 4) (j := 5) rfl rfl (by decide) rfl rfl (pa_cons (pe_tup (pa_cons (pe_tup (pa_cons pe_str pa_nil)) (pa_cons (pe_tup (pa_cons pe_str (pa_cons (pv 1) pa_nil))) pa_nil))) (pa_cons (pe_tup (pa_cons (pe_tup (pa_cons pe_str (pa_cons (pv 1) pa_nil))) (pa_cons (pe_tup (pa_cons pe_str pa_nil)) pa_nil))) pa_nil)) (by rfl)) (
      pss_cons (ps_set (i := 6) nd rfl (Or.inl rfl) (pe_tup (pa_cons pe_str (pa_cons (pv 2) (pa_cons pe_str (pa_cons (pe_ix ix_list (pe_lst (pa_cons (pv 4) (pa_cons pe_non pa_nil))) (pe_callTy call_int1 (by rfl) mInt (by decide +kernel) (pa_cons (pe_cmpR op_eq (pv 3) pe_int (nomark _)) pa_nil)) (fun _ _ => rfl)) (pa_cons (pe_ix ix_list (pe_lst (pa_cons (pv 5) (pa_cons pe_non pa_nil))) (pe_callTy call_int1 (by rfl) mInt (by decide +kernel) (pa_cons (pe_cmpR op_eq (pv 3) pe_int (nomark _)) pa_nil)) (fun _ _ => rfl)) pa_nil))))))) (
      pss_one (ps_ret (pe_tup (pa_cons (pv 2) (pa_cons (pv 3) (pa_cons (pv 1) (pa_cons (pv 6) pa_nil)))))))))), ?_⟩
    refine par_of (cons_of (mh_lst (H0 := H) (mh_cons mh_str (mh_cons mh_str (mh_cons mh_str mh_nil))) (Nat.le_of_ble_eq_true rfl) H _ (Same.refl _) fun va H1 s1 lA => ?_))
    cases lA with | @lst la xa _ ea hx =>
    refine rd_dr (m := 3) rfl (fun _ h => h) (pn.same s1) (by omega) (by decide) (by decide) fun r1 n1 L1 H2 q0 q1 y1 => ?_
    obtain ⟨i1, rfl⟩ : ∃ i : Nat, r1 = (i : Int) := ⟨r1.toNat, by omega⟩
    have hi1 : i1 < 3 := by omega
    obtain ⟨qq, hq⟩ : ∃ qq : Bool, ([.str "p", .str "p", .str "q"] : List PyData)[i1]? = some (.str (if qq = true then ("q" : Str) else "p")) := by
      match i1, hi1 with
      | 0, _ => exact ⟨false, rfl⟩
      | 1, _ => exact ⟨false, rfl⟩
      | 2, _ => exact ⟨true, rfl⟩
    have hx2 := hx.dr (pn.same s1) y1
    have ea2 := y1.kp _ _ ea (ne_of ea (pn.same s1).dc (by intro z; cases z))
    obtain ⟨vq, hvq, lq⟩ := hx2.at hq
    cases lq
    refine ⟨la, xa, (i1 : Int), _, rfl, rfl, SqL.of ea2, atI_nat hvq, ?_⟩
    have b1 := y1.hi
    refine cons_of (rd_dr (m := 3) rfl (fun _ h => h) y1.pn (by omega) (by decide) (by decide) fun r2 n2 L2' H3 w0 w1 y2 => ⟨_, _, rfl, ?_⟩)
    obtain ⟨m, rfl⟩ : ∃ i : Nat, r2 = (i : Int) := ⟨r2.toNat, by omega⟩
    have hm : m < 3 := by omega
    have y12 : Dr H H3 d l ms n n2 L2' 2 := by
      have b2 := y2.hi
      have c1 := y1.lo
      have c2 := y2.lo
      exact ⟨(Kp.of s1).trans (y1.kp.trans y2.kp), y2.pn, by omega, by omega⟩
    let t : TL := ⟨qq, m, x⟩
    show tSeq _ _ _ [some (.ref d), some (.str x), some (.str t.nm), some (.int (m : Int)), none, none, none] H3
    -- the two scripts
    have mk : MkHA H3 [some (.ref d), some (.str x), some (.str t.nm), some (.int (m : Int)), none, none, none] (tCons (tTup (tCons (tTup (tCons (tC (.str "echo")) tNil)) (tCons (tTup (tCons (tC (.str "say")) (tCons (tVar 1) tNil))) tNil))) (tCons (tTup (tCons (tTup (tCons (tC (.str "say")) (tCons (tVar 1) tNil))) (tCons (tTup (tCons (tC (.str "echo")) tNil)) tNil))) tNil)) [.tuple [echoD, sayD x], .tuple [sayD x, echoD]] :=
      mh_cons (mh_tup (mh_cons (mh_tup (mh_cons mh_str mh_nil) (Nat.le_of_ble_eq_true rfl)) (mh_cons (mh_tup (mh_cons mh_str (mh_cons (mh_var rfl (.str _)) mh_nil)) (Nat.le_of_ble_eq_true rfl)) mh_nil)) (Nat.le_of_ble_eq_true rfl))
        (mh_cons (mh_tup (mh_cons (mh_tup (mh_cons mh_str (mh_cons (mh_var rfl (.str _)) mh_nil)) (Nat.le_of_ble_eq_true rfl)) (mh_cons (mh_tup (mh_cons mh_str mh_nil) (Nat.le_of_ble_eq_true rfl)) mh_nil)) (Nat.le_of_ble_eq_true rfl)) mh_nil)
    refine par_of (mk H3 _ (Same.refl _) fun vs H4 s4 l4 => ?_)
    cases l4 with | @cons vk _ _ _ lk l4 =>
    cases l4 with | @cons vb _ _ _ lb l4 =>
    cases l4
    refine ⟨vk, vb, rfl, ?_⟩
    show tSeq _ _ _ [some (.ref d), some (.str x), some (.str t.nm), some (.int (m : Int)), some vk, some vb, none] H4
    have dec : ∀ z : Nat, decide (V.int (m : Int) = V.int (z : Int)) = decide (m = z) := fun z => by
      by_cases h : m = z
      · subst h; simp
      · rw [decide_eq_false h, decide_eq_false (fun q => h (by have := V.int.inj q; omega))]
    have ixk : ([.tuple [echoD, sayD x], .none] : List PyData)[if decide (m = 1) = true then 1 else 0]? = some (oS (kOf m x)) := by
      unfold kOf
      by_cases h : m = 1
      · rw [if_pos h, if_pos (decide_eq_true h)]; rfl
      · rw [if_neg h, if_neg (by rw [decide_eq_false h]; decide)]; rfl
    have ixb : ([.tuple [sayD x, echoD], .none] : List PyData)[if decide (m = 2) = true then 1 else 0]? = some (oS (bOf m x)) := by
      unfold bOf
      by_cases h : m = 2
      · rw [if_pos h, if_pos (decide_eq_true h)]; rfl
      · rw [if_neg h, if_neg (by rw [decide_eq_false h]; decide)]; rfl
    refine asg_n (mh_tup (H0 := H4) (mh_cons mh_str (mh_cons (mh_var rfl (.str _)) (mh_cons mh_str (mh_cons (mh_ixW (mh_cons (mh_var rfl lk) (mh_cons mh_non mh_nil)) (Nat.le_of_ble_eq_true rfl) (mh_intB (b := decide (m = 1)) fun H Q _ q => ⟨_, rfl, rfl, by rw [show decide (V.int (m : Int) = V.int 1) = decide (m = 1) from dec 1]; exact q⟩) ixk)
      (mh_cons (mh_ixW (mh_cons (mh_var rfl lb) (mh_cons mh_non mh_nil)) (Nat.le_of_ble_eq_true rfl) (mh_intB (b := decide (m = 2)) fun H Q _ q => ⟨_, rfl, rfl, by rw [show decide (V.int (m : Int) = V.int 2) = decide (m = 2) from dec 2]; exact q⟩) ixb) mh_nil))))) (Nat.le_of_ble_eq_true rfl) H4 _ (Same.refl _) fun vd H5 s5 l5 => ?_)
    refine mh_tup (H0 := H5) (mh_cons (mh_var rfl (.str _)) (mh_cons (mh_var rfl (.int _)) (mh_cons (mh_var rfl (.str _)) (mh_cons (mh_var rfl l5) mh_nil)))) (Nat.le_of_ble_eq_true rfl) H5 _ (Same.refl _) fun v H6 s6 l6 => ?_
    exact k t v n2 L2' H6 rfl hm ((y12.same s4).same s5 |>.same s6 |>.wk (by decide)) l6
end
end My

set_option Elab.async false
set_option linter.all false
set_option maxRecDepth 100000
set_option maxHeartbeats 8000000
namespace My
open PySem L2 PyProof.Rows
abbrev nLaw : List Str := ["_law_script", "_law_held", "_law_letters", "_law_turn", "_law_loop", "_law_is_kept", "_law_worth", "_law_takers", "_law_cut", "_law_spot", "_law_ends", "_law_deeds", "_law_at", "_law_todo", "_law_early", "_law_followers", "_law_order", "_law_want", "_law_called", "_law_mode", "_law_word", "_law_deed", "_law_k", "_law_one", "_law_event"]
theorem scLaw : FnScope nLaw ["_law_script"] (d_law).scope := ⟨rfl, rfl, rfl, by decide +kernel, rfl, by decide +kernel, by decide +kernel⟩
def spLaw (K : PySem.W.Frag) : Sp := fun vs H Q _ => ∃ (a : Addr) (ns : List Int), vs = [.ref a] ∧ SqL K H a (ns.map V.int) ∧ ∀ H', Q (.bl true) H'
/-! ### what the law writes -/
def abc12 : Str := "abcdefghijklmnopqrstuvwxyz"
def wds12 : List Str := ["w", "zz", "a"]
theorem abc_at : ∀ k : Nat, k < 12 → atI abc12.cps.toList (k : Int) = some (97 + k) := by decide +kernel
theorem abc_t (c : Nat) : ("t" : Str) ++ (⟨#[c]⟩ : Str) = ⟨#[116, c]⟩ := by
  have e : ("t" : Str) = ⟨#[116]⟩ := by decide +kernel
  rw [e]
  rfl
def okT (t : TL) : Prop := t.m < 3 ∧ ∃ k, k < 12 ∧ t.x = ⟨#[116, 97 + k]⟩
def dOf : PyData → PyData
  | .tuple [_, _, _, d] => d
  | d => d
theorem noL_oS (o : Option (List PyData)) (h : ∀ ds, o = some ds → noLL ds = true) : noL (oS o) = true := by
  cases o with
  | none => rfl
  | some ds => exact h ds rfl
theorem noL_thn (t : TL) : noL (thnD t) = true := by
  have h1 : noL (oS (kOf t.m t.x)) = true := noL_oS _ fun ds h => by
    unfold kOf at h
    split at h
    · cases h
    · cases h; rfl
  have h2 : noL (oS (bOf t.m t.x)) = true := noL_oS _ fun ds h => by
    unfold bOf at h
    split at h
    · cases h
    · cases h; rfl
  show noLL [.str "then", .str t.nm, .str "z", oS (kOf t.m t.x), oS (bOf t.m t.x)] = true
  simp only [noLL, noL, h1, h2, Bool.and_self]
theorem noL_tk (t : TL) : noL (tkT t) = true := by
  show noLL [.str t.nm, .int (t.m : Int), .str t.x, thnD t] = true
  simp only [noLL, noL, noL_thn, Bool.and_self]
theorem noLL_tk (ts : List TL) : noLL (ts.map tkT) = true := noLL_of fun d hd => by
  obtain ⟨t, _, rfl⟩ := List.mem_map.mp hd
  exact noL_tk t
theorem noL_dOf {ts : List TL} {e : PyData} (h : e ∈ ts.map tkT) : noL (dOf e) = true := by
  obtain ⟨t, _, rfl⟩ := List.mem_map.mp h
  exact noL_thn t
def isNm (x : Str) : PyData → Bool
  | .tuple (.str y :: _) => decide (y = x)
  | _ => false
theorem tst_tk {K : PySem.W.Frag} {σ : L2.St} {H2 : Hp} {x : V} {t : TL} {nm : Str} {Q : Bool → Hp → Prop} (hσ : σ[23]? = some (some x)) (lx : Lit H2 x (tkT t)) (q : Q (isNm nm (tkT t)) H2) : tTest (tOp rEq (tOp (rIxT K) (tVar 23) (tC (.int 0))) (tC (.str nm))) σ H2 Q := by
  cases lx with | @tup a xs _ e hx =>
  cases hx with | cons h0 hx =>
  cases h0
  refine ⟨_, hσ, a, _, 0, .str t.nm, rfl, rfl, SqT.of e, atI_nat (j := 0) rfl, rfl, _, rfl, ?_⟩
  have e : decide (V.str t.nm = V.str nm) = isNm nm (tkT t) := by
    show _ = decide (t.nm = nm)
    by_cases h : t.nm = nm
    · rw [h]; simp
    · rw [decide_eq_false h, decide_eq_false (fun z => h (V.str.inj z))]
  rw [e]; exact q
theorem nm_pq : ¬ (("q" : Str) = "p") ∧ ¬ (("p" : Str) = "q") := by decide +kernel
theorem is_p (t : TL) : isNm "p" (tkT t) = !t.q := by
  obtain ⟨q, m, x⟩ := t
  cases q
  · exact decide_eq_true (show ("p" : Str) = "p" from rfl)
  · exact decide_eq_false nm_pq.1
theorem is_q (t : TL) : isNm "q" (tkT t) = t.q := by
  obtain ⟨q, m, x⟩ := t
  cases q
  · exact decide_eq_false nm_pq.2
  · exact decide_eq_true (show ("q" : Str) = "q" from rfl)
theorem flt_p (l : List TL) : ((l.map tkT).filter (isNm "p")).map id = (l.filter fun t => !t.q).map tkT := by
  rw [List.map_id, List.filter_map]
  congr 1
  apply List.filter_congr
  intro t _
  exact is_p t
theorem flt_q (l : List TL) : ((l.map tkT).filter (isNm "q")).map id = (l.filter fun t => t.q).map tkT := by
  rw [List.map_id, List.filter_map]
  congr 1
  apply List.filter_congr
  intro t _
  exact is_q t
theorem order12_eq (ts : List TL) (at0 cut : Nat) (ha : at0 ≤ cut) (hc : cut ≤ ts.length) : ((((((ts.map tkT).drop 0).take (at0 - 0)).filter (isNm "p")).map id ++ ((((ts.map tkT).drop 0).take (cut - 0)).filter (isNm "q")).map id) ++ ((((ts.map tkT).drop at0).take (cut - at0)).filter (isNm "p")).map id ++ ((ts.map tkT).drop cut).take ((ts.map tkT).length - cut) : List PyData) =
    (order12 (ts.take at0) ((ts.drop at0).take (cut - at0)) (ts.drop cut)).map tkT := by
  have e1 : ts.take cut = ts.take at0 ++ (ts.drop at0).take (cut - at0) := by
    conv => lhs; rw [show cut = at0 + (cut - at0) by omega, List.take_add]
  have e4 : ((ts.map tkT).drop cut).take ((ts.map tkT).length - cut) = (ts.drop cut).map tkT := by
    rw [List.take_of_length_le (by rw [List.length_drop]; omega), List.map_drop]
  rw [e4, List.drop_zero, Nat.sub_zero, Nat.sub_zero, ← List.map_take, ← List.map_take, ← List.map_drop, ← List.map_take, flt_p, flt_q, flt_p, e1]
  unfold order12
  simp only [List.map_append]
theorem order12_len (l1 l2 l3 : List TL) : (order12 l1 l2 l3).length = l1.length + l2.length + l3.length := by
  have s1 := len_two l1
  have s2 := len_two l2
  unfold order12
  simp only [List.length_append, List.filter_append]
  omega
def saysNo (kp : Bool) (m : Nat) : Bool := if kp = true then decide (m = 1) else decide (m = 2)
theorem nbk : ¬ (("broken" : Str) = "kept") := by decide +kernel
theorem says_none {kp : Bool} {m : Nat} {wd x : Str} (h : saysNo kp m = true) : saysT (endF12 kp wd) m x = [] := by
  cases kp
  · have h : m = 2 := of_decide_eq_true h
    show (if ("broken" : Str) = "kept" then (if m = 1 then [] else [PyData.str wd, .str x]) else (if m = 2 then [] else [.str x, .str wd])) = []
    rw [if_neg nbk, if_pos h]
  · have h : m = 1 := of_decide_eq_true h
    show (if ("kept" : Str) = "kept" then (if m = 1 then [] else [PyData.str wd, .str x]) else (if m = 2 then [] else [.str x, .str wd])) = []
    rw [if_pos rfl, if_pos h]
theorem says_some {kp : Bool} {m : Nat} {wd x : Str} (h : saysNo kp m = false) : saysT (endF12 kp wd) m x = if kp = true then [.str wd, .str x] else [.str x, .str wd] := by
  cases kp
  · have h : ¬ m = 2 := of_decide_eq_false h
    show (if ("broken" : Str) = "kept" then (if m = 1 then [] else [PyData.str wd, .str x]) else (if m = 2 then [] else [.str x, .str wd])) = [.str x, .str wd]
    rw [if_neg nbk, if_neg h]
  · have h : ¬ m = 1 := of_decide_eq_false h
    show (if ("kept" : Str) = "kept" then (if m = 1 then [] else [PyData.str wd, .str x]) else (if m = 2 then [] else [.str x, .str wd])) = [.str wd, .str x]
    rw [if_pos rfl, if_neg h]
theorem says_no {kp : Bool} {m : Nat} (h : saysNo kp m = true) : (!decide (V.int (m : Int) = V.int (if kp = true then 1 else 2))) = false := by
  unfold saysNo at h
  cases kp
  · have h := of_decide_eq_true h
    subst h
    simp
  · have h := of_decide_eq_true h
    subst h
    simp
theorem says_yes {kp : Bool} {m : Nat} (h : saysNo kp m = false) : (!decide (V.int (m : Int) = V.int (if kp = true then 1 else 2))) = true := by
  unfold saysNo at h
  cases kp
  · have h := of_decide_eq_false h
    rw [decide_eq_false (fun z => h (by have := V.int.inj z; simp at this; omega))]; rfl
  · have h := of_decide_eq_false h
    rw [decide_eq_false (fun z => h (by have := V.int.inj z; simp at this; omega))]; rfl
theorem says12_len (f : Fate) : ∀ l : List TL, (says12 f l).length ≤ 2 * l.length
  | [] => Nat.le_refl _
  | t :: l => by
    have := says12_len f l
    have e : says12 f (t :: l) = saysT f t.m t.x ++ says12 f l := rfl
    have h : (saysT f t.m t.x).length ≤ 2 := by
      unfold saysT
      split <;> split <;> simp
    rw [e, List.length_append, List.length_cons]
    omega
theorem two12_ix (kp : Bool) : ([.int 2, .int 1] : List PyData)[if kp = true then 1 else 0]? = some (.int (if kp = true then 1 else 2)) := by cases kp <;> rfl
theorem mh_castL {H0 : Hp} {σ : L2.St} {te : TE} {b : Bool} {xs ys : List PyData} (h : MkH H0 σ te (if b = true then .list xs else .list ys)) : MkH H0 σ te (.list (if b = true then xs else ys)) := by
  cases b <;> exact h
theorem sel_str (y : Str) (d2 : PyData) (r : List PyData) : decide (V.str y = V.str "said") = selS (.tuple (.int 0 :: .str y :: d2 :: r)) := by
  show _ = decide (y = "said")
  by_cases h : y = "said"
  · rw [h]; simp
  · rw [decide_eq_false h, decide_eq_false (fun z => h (V.str.inj z))]
theorem sel_mc (y : Str) (d2 : PyData) (r : List PyData) : decide (V.str y = V.str "micro") = selMc (.tuple (.int 0 :: .str y :: d2 :: r)) := by
  show _ = decide (y = "micro")
  by_cases h : y = "micro"
  · rw [h]; simp
  · rw [decide_eq_false h, decide_eq_false (fun z => h (V.str.inj z))]
theorem here_ok {e : PyData} (h : e ∈ ([.str "here", .str "end"] : List PyData)) : ∃ x, e = .str x ∧ PyData.strOk x = true := by
  rcases List.mem_cons.mp h with rfl | h
  · exact ⟨_, rfl, by decide +kernel⟩
  · rcases List.mem_cons.mp h with rfl | h
    · exact ⟨_, rfl, by decide +kernel⟩
    · cases h
theorem wds_ok : (wds12.all fun x => PyData.strOk x) = true := by decide +kernel
theorem tx_ok : ((List.range 12).all fun k => PyData.strOk ⟨#[116, 97 + k]⟩) = true := by decide +kernel
theorem says_ok {kp : Bool} {wd : Str} {t : TL} (hw : wd ∈ wds12) (ht : okT t) {e : PyData} (h : e ∈ saysT (endF12 kp wd) t.m t.x) : ∃ x, e = .str x ∧ PyData.strOk x = true := by
  have w1 := List.all_eq_true.mp wds_ok wd hw
  obtain ⟨_, k, hk, hx⟩ := ht
  have w2 : PyData.strOk t.x = true := by rw [hx]; exact List.all_eq_true.mp tx_ok k (List.mem_range.mpr hk)
  have h : e ∈ ([.str wd, .str t.x] : List PyData) ∨ e ∈ ([.str t.x, .str wd] : List PyData) := by
    cases hq : saysNo kp t.m with
    | true => rw [says_none hq] at h; cases h
    | false =>
      rw [says_some hq] at h
      cases kp
      · exact .inr h
      · exact .inl h
  have h : e = .str wd ∨ e = .str t.x := by
    simp only [List.mem_cons, List.not_mem_nil, or_false] at h
    rcases h with h | h
    · exact h
    · exact h.symm
  rcases h with rfl | rfl
  · exact ⟨_, rfl, w1⟩
  · exact ⟨_, rfl, w2⟩
theorem order12_mem {l1 l2 l3 : List TL} {t : TL} (h : t ∈ order12 l1 l2 l3) : t ∈ l1 ∨ t ∈ l2 ∨ t ∈ l3 := by
  unfold order12 at h
  rcases List.mem_append.mp h with h | h
  · rcases List.mem_append.mp h with h | h
    · rcases List.mem_append.mp h with h | h
      · exact .inl ((List.mem_filter.mp h).1)
      · rcases List.mem_append.mp ((List.mem_filter.mp h).1) with h | h
        · exact .inl h
        · exact .inr (.inl h)
    · exact .inr (.inl ((List.mem_filter.mp h).1))
  · exact .inr (.inr h)
theorem ends12_ix (kp : Bool) (wd : Str) : ([.tuple [.str "break", .str "p", .str wd], .tuple [.str "keep", .str "p", .str wd]] : List PyData)[if kp = true then 1 else 0]? = some (endD12 kp wd) := by cases kp <;> rfl
theorem deeds12 (ts : List TL) : ((ts.map tkT).filter (fun _ => true)).map dOf = ts.map thnD := by
  rw [List.filter_eq_self.mpr (fun _ _ => rfl), List.map_map]
  rfl
theorem todo12_eq (ts : List TL) (at0 cut : Nat) (kp : Bool) (wd : Str) {n : Nat} (hn : n = ts.length) (hc : cut ≤ n) :
    (((([.tuple [.str "make", .str "p"], .tuple [.str "make", .str "q"]] ++ ((ts.map thnD).drop 0).take (at0 - 0)) ++ [.tuple [.str "follow", .str "q", .str "p"]]) ++ ((ts.map thnD).drop at0).take (cut - at0)) ++ [endD12 kp wd, .tuple [.str "say", .str "here"]] ++ ((ts.map thnD).drop cut).take ((ts.map thnD).length - cut) ++ [.tuple [.str "say", .str "end"]] : List PyData) = todo12 (ts.take at0) ((ts.drop at0).take (cut - at0)) (ts.drop cut) kp wd := by
  unfold todo12 mkD foD sayD
  have e : ((ts.map thnD).drop cut).take ((ts.map thnD).length - cut) = (ts.drop cut).map thnD := by
    rw [List.take_of_length_le (by rw [List.length_drop]; omega), List.map_drop]
  rw [e]
  simp only [List.drop_zero, Nat.sub_zero, List.map_take, List.map_drop, List.append_assoc, List.cons_append, List.nil_append]
theorem gd_thn : ((List.range 12).all fun k => (List.range 3).all fun m => gd2 (thnD ⟨false, m, ⟨#[116, 97 + k]⟩⟩) && gd2 (thnD ⟨true, m, ⟨#[116, 97 + k]⟩⟩)) = true := by decide +kernel
theorem gd_thnA {t : TL} (h : okT t) : gd2 (thnD t) = true := by
  obtain ⟨q, m, x⟩ := t
  obtain ⟨hm, k, hk, hx⟩ := h
  have hx : x = ⟨#[116, 97 + k]⟩ := hx
  subst hx
  have := List.all_eq_true.mp (List.all_eq_true.mp gd_thn k (List.mem_range.mpr hk)) m (List.mem_range.mpr hm)
  rw [Bool.and_eq_true] at this
  cases q
  · exact this.1
  · exact this.2
theorem gd_rest : (wds12.all fun x => gd2 (endD12 true x) && gd2 (endD12 false x)) = true ∧ gd2 (mkD "p") = true ∧ gd2 (mkD "q") = true ∧ gd2 (foD "q" "p") = true ∧ gd2 (sayD "here") = true ∧ gd2 (sayD "end") = true := by decide +kernel
theorem okS12 {l1 l2 l3 : List TL} {kp : Bool} {wd : Str} (h1 : ∀ t ∈ l1, okT t) (h2 : ∀ t ∈ l2, okT t) (h3 : ∀ t ∈ l3, okT t) (hw : wd ∈ wds12) (hl : l1.length + l2.length + l3.length ≤ 12) : OkS (todo12 l1 l2 l3 kp wd) := by
  obtain ⟨g1, g2, g3, g4, g5, g6⟩ := gd_rest
  have hm : ∀ (l : List TL), (∀ t ∈ l, okT t) → ∀ d ∈ l.map thnD, gd2 d = true := fun l h d hd => by
    obtain ⟨t, ht, rfl⟩ := List.mem_map.mp hd
    exact gd_thnA (h t ht)
  have he : gd2 (endD12 kp wd) = true := by
    have := List.all_eq_true.mp g1 wd hw
    rw [Bool.and_eq_true] at this
    cases kp
    · exact this.2
    · exact this.1
  refine okS_of2 (fun d hd => ?_) ?_
  · unfold todo12 at hd
    simp only [List.mem_append, List.mem_cons, List.not_mem_nil, or_false] at hd
    rcases hd with (((((rfl | rfl) | hd) | rfl) | hd) | (((rfl | rfl) | hd) | rfl))
    · exact g2
    · exact g3
    · exact hm _ h1 _ hd
    · exact g4
    · exact hm _ h2 _ hd
    · exact he
    · exact g5
    · exact hm _ h3 _ hd
    · exact g6
  · unfold todo12
    simp only [List.length_append, List.length_cons, List.length_nil, List.length_map]
    omega
section
variable {P : Program} {w : World} {K : PySem.W.Frag} {mg : Str → Option Value} {pB : Heap} {c : CC} {CS CR : Addr}
theorem ok_law {f fP fD fTk fL fPo fT fJ : Addr} {fd dP dD dTk dL dPo dT dJ : FuncData} {gL gP1 : List Value → List Value → List Value} {mv : List Value} {kT : Nat} (F : FnDd K d_law f fd) (X : MC K c) (Y : LC K c)
    (GP : FnOk P w K mg pB CX0 1 fP dP ["_law_script"] (spPen K)) (CPn : Cal K mg "_law_pen" fP dP ["_law_script"]) (GD : FnOk P w K mg pB CX0 1 fD dD ["_law_held", "_law_many"] spDraw) (CD : Cal K mg "_law_draw" fD dD ["_law_held", "_law_many"])
    (GTk : FnOk P w K mg pB CX0 2 fTk dTk ["_law_held", "_law_word"] (spTk K)) (CTk : Cal K mg "_law_taken" fTk dTk ["_law_held", "_law_word"])
    (GL : FnOk P w K mg pB CX0 4 fL dL pLoop (spLoopG K c)) (mL : mg "Loop" = some (.ref c.lp)) (ML : Mk K c.lp fL) (BL : KBn K dL pLoop 1 ["ranks"] gL (fun us ws => us ++ (ws ++ [.non, .int 100, .int 8, .non])))
    (GPo : FnOk P w K mg pB (L2.CX P w) 22 fPo dPo pPost (spPost K c CS CR)) (EPo : Meth K c.lp "post" fPo) (BP1 : KBn K dPo pPost 2 [] gP1 (fun us _ => us ++ [.int 0, .str "work"]))
    (GT : FnOk P w K mg pB CX0 kT fT dT ["self", "most"] (spTurns K c (act12 notW) down12)) (ET : Meth K c.lp "turns" fT) (BT3 : Binds K dT ["self", "most"] mv) (hmv : Vals [.int 400] mv) (hkT : kT ≤ 22)
    (GJ : FnOk P w K mg pB CX0 1 fJ dJ ["self"] (spJour K c)) (EJ : Meth K c.lp "journal" fJ) (BJ : Binds K dJ ["self"] [])
    (mR : mg "range" = none) (mTu : mg "tuple" = none) (mLen : mg "len" = none) (mInt : mg "int" = none) (mMin : mg "min" = none) : FnOk P w K mg pB CX0 23 f fd ["_law_script"] (spLaw K) := by
  refine F.ok scLaw (fun vs H Q E h => ?_) (fun cdv A outer s0 H vs Q E hr h => ?_)
  · obtain ⟨a, ns, rfl, _⟩ := h
    rfl
  · obtain ⟨a, ns, rfl, hS, k⟩ := h
    have nd := scLaw.nd
    have hr1 : Room 1 _ := hr.mono (show 1 ≤ 22 by decide)
    have hr2 : Room 2 _ := hr.mono (show 2 ≤ 22 by decide)
    have hr5 : Room 5 _ := hr.mono (show 5 ≤ 22 by decide)
    have hr9 : Room kT _ := hr.mono hkT
    have GPc := GPo.calm
    have lp_ := Y.lp.c
    refine ⟨_, PSs.nox (
      pss_cons (ps_set (i := 1) nd rfl (Or.inr rfl) (pe_call GP hr1 (by rfl) CPn.m CPn.k CPn.b .nil pass0 (pa_cons (pv 0) pa_nil))) (
      pss_cons (ps_set (i := 2) nd rfl (Or.inr rfl) pe_str) (
      pss_cons (ps_for PassesOwn.never rfl (pi_range1 (by rfl) mR (pa_cons pe_int pa_nil)) (pg_name (i := 3) nd rfl (Or.inl rfl) (Or.inr rfl)) (
          pss_cons (ps_par3 (by rfl) nd (i := 4) (j := 5) (l := 6) rfl rfl rfl (by decide) (by decide) (by decide) rfl rfl rfl (pa_cons (pe_makeK0 ML GL hr5 (by rfl) mL BL pass0 (pk_cons pe_int pk_nil)) (pa_cons (pe_cmpR op_eq (pe_call GD hr1 (by rfl) CD.m CD.k CD.b .nil pass0 (pa_cons (pv 1) (pa_cons pe_int pa_nil))) pe_int (nomark _)) (pa_cons (pe_ix ix_list (pe_lst (pa_cons pe_str (pa_cons pe_str (pa_cons pe_str pa_nil)))) (pe_call GD hr1 (by rfl) CD.m CD.k CD.b .nil pass0 (pa_cons (pv 1) (pa_cons pe_int pa_nil))) (fun _ _ => rfl)) pa_nil))) (by rfl)) (
          pss_cons (ps_setLc (i := 7) (own := [("_law_k", 22)]) (g := gName 22) (tt := tYes) (te := tCall (spTk K) [] E0 (tCons (tVar 1) (tCons (tOp (fun x y H Q => ∃ i j, x = .str i ∧ y = .str j ∧ i.length + j.length ≤ sizeLine ∧ Q (.str (i ++ j)) H) (tC (.str "t")) (tOp rIxS (tVar 2) (tVar 22))) tNil))) rfl nd rfl rfl (sw_true rfl rfl rfl (by decide +kernel)) (pi_range1 (by rfl) mR (pa_cons (pe_call GD hr1 (by rfl) CD.m CD.k CD.b .nil pass0 (pa_cons (pv 1) (pa_cons pe_int pa_nil))) pa_nil)) (blkOk_by (N := nLaw) (sc := (d_law).scope) (by decide +kernel)) (fun _ _ _ _ _ => pg_name (i := 22) nd rfl (Or.inl rfl) (Or.inr rfl)) (fun _ _ _ _ _ => pts_nil) (fun _ _ _ _ _ => pe_call GTk hr2 (by rfl) CTk.m CTk.k CTk.b .nil pass0 (pa_cons (pv 1) (pa_cons (pe_op op_add_str pe_str (pe_ix ix_str (pv 2) (pv 22) (fun _ _ => rfl))) pa_nil)))) (
          pss_cons (ps_par (by rfl) nd (i := 8) (j := 9) rfl rfl (by decide) rfl rfl (pa_cons (pe_call GD hr1 (by rfl) CD.m CD.k CD.b .nil pass0 (pa_cons (pv 1) (pa_cons (pe_op op_add (pe_callB call_len_seq (by rfl) mLen PySem.boot_len (pa_cons (pv 7) pa_nil)) pe_int) pa_nil))) (pa_cons (pe_call GD hr1 (by rfl) CD.m CD.k CD.b .nil pass0 (pa_cons (pv 1) (pa_cons pe_int pa_nil))) pa_nil)) (by rfl)) (
          pss_cons (ps_set (i := 10) nd rfl (Or.inl rfl) (pe_ix ix_list (pe_lst (pa_cons (pe_tup (pa_cons pe_str (pa_cons pe_str (pa_cons (pv 6) pa_nil)))) (pa_cons (pe_tup (pa_cons pe_str (pa_cons pe_str (pa_cons (pv 6) pa_nil)))) pa_nil))) (pe_callTy call_int1 (by rfl) mInt (by decide +kernel) (pa_cons (pv 5) pa_nil)) (fun _ _ => rfl))) (
          pss_cons (ps_setLc (i := 11) (own := [("_law_one", 23)]) (g := gName 23) (tt := tYes) (te := tOp (rIxT K) (tVar 23) (tC (.int 3))) rfl nd rfl rfl (sw_true rfl rfl rfl (by decide +kernel)) (pi_list (pv 7)) (blkOk_by (N := nLaw) (sc := (d_law).scope) (by decide +kernel)) (fun _ _ _ _ _ => pg_name (i := 23) nd rfl (Or.inl rfl) (Or.inr rfl)) (fun _ _ _ _ _ => pts_nil) (fun _ _ _ _ _ => pe_ix ix_tup (pv 23) pe_int (fun _ _ => rfl))) (
          pss_cons (ps_set (i := 12) nd rfl (Or.inl rfl) (pe_callB (call_min2 rfl) (by rfl) mMin (by decide +kernel) (pa_cons (pv 9) (pa_cons (pv 8) pa_nil)))) (
          pss_cons (ps_set (i := 13) nd rfl (Or.inl rfl) (pe_op op_catT (pe_op op_catT (pe_op op_catT (pe_tup (pa_cons (pe_tup (pa_cons pe_str (pa_cons pe_str pa_nil))) (pa_cons (pe_tup (pa_cons pe_str (pa_cons pe_str pa_nil))) pa_nil))) (pe_callTy call_tuple_of (by rfl) mTu (by decide +kernel) (pa_cons (pe_slice sl_list (pv 11) po_none (po_some (pv 12))) pa_nil))) (pe_tup (pa_cons (pe_tup (pa_cons pe_str (pa_cons pe_str (pa_cons pe_str pa_nil)))) pa_nil))) (pe_callTy call_tuple_of (by rfl) mTu (by decide +kernel) (pa_cons (pe_slice sl_list (pv 11) (po_some (pv 12)) (po_some (pv 8))) pa_nil)))) (
          pss_cons (ps_expr (pe_methK (n := 1) (pv 4) lp_ EPo GPc hr BP1 pass0 (pa_cons (pe_op op_catT (pe_op op_catT (pe_op op_catT (pv 13) (pe_tup (pa_cons (pv 10) (pa_cons (pe_tup (pa_cons pe_str (pa_cons pe_str pa_nil))) pa_nil)))) (pe_callTy call_tuple_of (by rfl) mTu (by decide +kernel) (pa_cons (pe_slice sl_list (pv 11) (po_some (pv 8)) po_none) pa_nil))) (pe_tup (pa_cons (pe_tup (pa_cons pe_str (pa_cons pe_str pa_nil))) pa_nil))) pa_nil) pk_nil)) (
          pss_cons (ps_expr (pe_meth0 (pv 4) lp_ ET GT hr9 BT3 hmv pass0)) (
          pss_cons (ps_setLc (i := 14) (own := [("_law_one", 23)]) (g := gName 23) (tt := tTest (tOp rEq (tOp (rIxT K) (tVar 23) (tC (.int 0))) (tC (.str "p")))) (te := tVar 23) rfl nd rfl rfl (sw_true rfl rfl rfl (by decide +kernel)) (pi_list (pe_slice sl_list (pv 7) po_none (po_some (pv 12)))) (blkOk_by (N := nLaw) (sc := (d_law).scope) (by decide +kernel)) (fun _ _ _ _ _ => pg_name (i := 23) nd rfl (Or.inl rfl) (Or.inr rfl)) (fun _ _ _ _ _ => pts_one (pt_cmpR op_eq (pe_ix ix_tup (pv 23) pe_int (fun _ _ => rfl)) pe_str (nomark _))) (fun _ _ _ _ _ => pv 23)) (
          pss_cons (ps_setLc (i := 15) (own := [("_law_one", 23)]) (g := gName 23) (tt := tTest (tOp rEq (tOp (rIxT K) (tVar 23) (tC (.int 0))) (tC (.str "q")))) (te := tVar 23) rfl nd rfl rfl (sw_true rfl rfl rfl (by decide +kernel)) (pi_list (pe_slice sl_list (pv 7) po_none (po_some (pv 8)))) (blkOk_by (N := nLaw) (sc := (d_law).scope) (by decide +kernel)) (fun _ _ _ _ _ => pg_name (i := 23) nd rfl (Or.inl rfl) (Or.inr rfl)) (fun _ _ _ _ _ => pts_one (pt_cmpR op_eq (pe_ix ix_tup (pv 23) pe_int (fun _ _ => rfl)) pe_str (nomark _))) (fun _ _ _ _ _ => pv 23)) (
          pss_cons (ps_set (i := 16) nd rfl (Or.inl rfl) (pe_op op_cat (pe_op op_cat (pe_op op_cat (pv 14) (pv 15)) (pe_lc (own := [("_law_one", 23)]) (g := gName 23) (tt := tTest (tOp rEq (tOp (rIxT K) (tVar 23) (tC (.int 0))) (tC (.str "p")))) (te := tVar 23) rfl nd (pi_list (pe_slice sl_list (pv 7) (po_some (pv 12)) (po_some (pv 8)))) (blkOk_by (N := nLaw) (sc := (d_law).scope) (by decide +kernel)) (fun _ _ _ _ _ => pg_name (i := 23) nd rfl (Or.inl rfl) (Or.inr rfl)) (fun _ _ _ _ _ => pts_one (pt_cmpR op_eq (pe_ix ix_tup (pv 23) pe_int (fun _ _ => rfl)) pe_str (nomark _))) (fun _ _ _ _ _ => pv 23))) (pe_slice sl_list (pv 7) (po_some (pv 8)) po_none))) (
          pss_cons (ps_set (i := 17) nd rfl (Or.inl rfl) (pe_lst (pa_cons pe_str (pa_cons pe_str pa_nil)))) (
          pss_cons (ps_for PassesOwn.never rfl (pi_list (pv 16)) (pg_tup (by rfl) (pgs_cons (pg_name (i := 18) nd rfl (Or.inl rfl) (Or.inr rfl)) (pgs_cons (pg_name (i := 19) nd rfl (Or.inl rfl) (Or.inr rfl)) (pgs_cons (pg_name (i := 20) nd rfl (Or.inl rfl) (Or.inr rfl)) (pgs_cons (pg_name (i := 21) nd rfl (Or.inl rfl) (Or.inr rfl)) pgs_nil))))) (
              pss_one (ps_if (pt_cmpR op_ne (pv 19) (pe_ix ix_list (pe_lst (pa_cons pe_int (pa_cons pe_int pa_nil))) (pe_callTy call_int1 (by rfl) mInt (by decide +kernel) (pa_cons (pv 5) pa_nil)) (fun _ _ => rfl)) (nomark _)) (
                  pss_one (ps_set (i := 17) nd rfl (Or.inl rfl) (pe_op op_cat (pv 17) (pe_ifExp (pt_val (pv 5)) (pe_lst (pa_cons (pv 6) (pa_cons (pv 20) pa_nil))) (pe_lst (pa_cons (pv 20) (pa_cons (pv 6) pa_nil))))))) pss_nil))) (
          pss_cons (ps_if (pt_cmpR (op_neD hr.units) (pe_lc (own := [("_law_event", 24)]) (g := gName 24) (tt := tTest (tOp rEq (tOp (rIxT K) (tVar 24) (tC (.int 1))) (tC (.str "said")))) (te := tOp (rIxT K) (tVar 24) (tC (.int 2))) rfl nd (pi_list (pe_meth0 (pv 4) lp_ EJ GJ hr1 BJ .nil pass0)) (blkOk_by (N := nLaw) (sc := (d_law).scope) (by decide +kernel)) (fun _ _ _ _ _ => pg_name (i := 24) nd rfl (Or.inl rfl) (Or.inr rfl)) (fun _ _ _ _ _ => pts_one (pt_cmpR op_eq (pe_ix ix_tup (pv 24) pe_int (fun _ _ => rfl)) pe_str (nomark _))) (fun _ _ _ _ _ => pe_ix ix_tup (pv 24) pe_int (fun _ _ => rfl))) (pv 17) (nomark _)) (
              pss_one (ps_ret pe_bl)) pss_nil) (
          pss_one (ps_if (pt_cmpR op_ne (pe_callB call_len_seq (by rfl) mLen PySem.boot_len (pa_cons (pe_lc (own := [("_law_event", 24)]) (g := gName 24) (tt := tTest (tOp rEq (tOp (rIxT K) (tVar 24) (tC (.int 1))) (tC (.str "micro")))) (te := tVar 24) rfl nd (pi_list (pe_meth0 (pv 4) lp_ EJ GJ hr1 BJ .nil pass0)) (blkOk_by (N := nLaw) (sc := (d_law).scope) (by decide +kernel)) (fun _ _ _ _ _ => pg_name (i := 24) nd rfl (Or.inl rfl) (Or.inr rfl)) (fun _ _ _ _ _ => pts_one (pt_cmpR op_eq (pe_ix ix_tup (pv 24) pe_int (fun _ _ => rfl)) pe_str (nomark _))) (fun _ _ _ _ _ => pv 24)) pa_nil)) (pe_callB call_len_seq (by rfl) mLen PySem.boot_len (pa_cons (pv 7) pa_nil)) (nomark _)) (
              pss_one (ps_ret pe_bl)) pss_nil)))))))))))))))))) (
      pss_one (ps_ret pe_bl))))), ?_⟩
    refine asg_n (call_of ⟨_, rfl, a, ns, rfl, hS, fun d l ms H1 hd hl s1 p1 => ?_⟩)
    refine asg_n ?_
    refine ⟨3, rfl, by decide, by decide, for_range (lo := 0) (n := 3) (fun j σ H2 => ∃ (nn LL : Int) (x3 x4 x5 x6 x7 x8 x9 x10 x11 x12 x13 x14 x15 x16 x17 x18 x19 x20 x21 x22 x23 x24 : Option V), σ = [some (.ref a), some (.ref d), some (.str abc12), x3, x4, x5, x6, x7, x8, x9, x10, x11, x12, x13, x14, x15, x16, x17, x18, x19, x20, x21, x22, x23, x24] ∧ Pen H2 d l ms nn LL ∧ nn ≤ 1000 * (j : Int)) ?_ ?_ ?_⟩
    · exact ⟨0, 0, _, _, _, _, _, _, _, _, _, _, _, _, _, _, _, _, _, _, _, _, _, _, rfl, p1, by decide⟩
    · rintro j σ H2 hj ⟨nn, LL, x3, x4, x5, x6, x7, x8, x9, x10, x11, x12, x13, x14, x15, x16, x17, x18, x19, x20, x21, x22, x23, x24, rfl, pn, hb⟩
      rw [Int.zero_add]
      refine par3_of (cons_of ⟨rfl, rfl, fun lp ldx h1 h2 hne => ?_⟩)
      have h1 : H2 lp = none := h1
      have h2 : H2 ldx = none := h2
      have sL : Same H2 (L2.upd (L2.upd H2 ldx (.own lp)) lp (.ins c.lp ldx [])) := Same.new (Same.new (Same.refl _) h2) (by rw [upd_ne hne.symm]; exact h1)
      refine ⟨lp, ldx, [none], 1, .non, 100, 8, rfl, upd_same, .inl ⟨rfl, rfl⟩, by decide, by decide, fun L H5 ka mr lpst fr => ⟨rfl, ?_⟩⟩
      have fr4 : ∀ e, L.role e ≠ none → H2 e = none := fun e he => none_back sL (fr e he)
      have s45 : Same H2 H5 := fun e o h => ka e o (sL _ _ h) (ne_of_none h h1)
      have rn : ∀ {e : Addr} {o : HO}, H2 e = some o → L.role e = none := fun {e o} h => by
        cases z : L.role e with
        | none => rfl
        | some t =>
          have := fr4 e (by rw [z]; exact fun y => by cases y)
          rw [h] at this; cases this
      have rlp : L.role lp = none := by
        cases z : L.role lp with
        | none => rfl
        | some t =>
          have := fr lp (by rw [z]; exact fun y => by cases y)
          rw [upd_same] at this; cases this
      have tl : Tl K c H5 d l ms nn LL lp L M00 [] := {
        isl := ⟨ldx, lpst⟩
        m := mr
        rlp := rlp
        p := pn.same s45
        rd := rn pn.dc
        rl := rn pn.ls
        os := fun q hq => nomatch hq }
      clear ka fr sL s45 h1 h2 hne fr4 rn rlp mr lpst pn
      refine cons_of (rd_dr (m := 2) rfl (fun _ h => h) tl.p (by omega) (by decide) (by decide) fun r0 n1 L1 K1 q0 q1 y1 => ⟨rfl, ?_⟩)
      generalize decide (V.int r0 = V.int 0) = kp
      have b1 := y1.hi
      have tlA := tl.dr Y y1
      clear tl y1 q0 q1
      refine cons_of (mh_lst (H0 := K1) (mh_cons mh_str (mh_cons mh_str (mh_cons mh_str mh_nil))) (Nat.le_of_ble_eq_true rfl) K1 _ (Same.refl _) fun va K2 s2 lA => ?_)
      cases lA with | @lst la xa _ ea hx =>
      have tlB := tlA.same s2
      refine rd_dr (m := 3) rfl (fun _ h => h) tlB.p (by omega) (by decide) (by decide) fun r3 n2 L2' K3 q0 q1 y3 => ?_
      obtain ⟨i3, rfl⟩ : ∃ i : Nat, r3 = (i : Int) := ⟨r3.toNat, by omega⟩
      obtain ⟨wd, hwd, hwi⟩ : ∃ wd : Str, wd ∈ wds12 ∧ ([.str "w", .str "zz", .str "a"] : List PyData)[i3]? = some (.str wd) := by
        match i3, (show i3 < 3 by omega) with
        | 0, _ => exact ⟨"w", .head _, rfl⟩
        | 1, _ => exact ⟨"zz", .tail _ (.head _), rfl⟩
        | 2, _ => exact ⟨"a", .tail _ (.tail _ (.head _)), rfl⟩
      have hx3 := hx.dr tlB.p y3
      have ea3 := y3.kp _ _ ea (ne_of ea tlB.p.dc (by intro z; cases z))
      obtain ⟨vw, hvw, lw⟩ := hx3.at hwi
      cases lw
      have b3 := y3.hi
      have tlC := tlB.dr Y y3
      refine ⟨la, xa, (i3 : Int), _, rfl, rfl, SqL.of ea3, atI_nat hvw, nilOf ⟨_, _, _, rfl, ?_⟩⟩
      clear tlB tlA y3 q0 q1 ea ea3 hx hx3 hvw s2
      show tSeq _ _ _ [some (.ref a), some (.ref d), some (.str abc12), some (.int (j : Int)), some (.ref lp), some (.bl kp), some (.str wd), x7, x8, x9, x10, x11, x12, x13, x14, x15, x16, x17, x18, x19, x20, x21, x22, x23, x24] K3
      -- the takers
      refine asg_n ?_
      refine rng_lc (cons_of (rd_dr (m := 13) rfl (fun _ h => h) tlC.p (by omega) (by decide) (by decide) fun r13 n3 L3 K4 t0 t1 y4 => nilOf ⟨_, rfl, by omega, by omega, fun D hD => ?_⟩))
      obtain ⟨nt, rfl⟩ : ∃ nt : Nat, r13 = (nt : Int) := ⟨r13.toNat, by omega⟩
      have hnt : nt ≤ 12 := by omega
      have b4 := y4.hi
      have tlD := tlC.dr Y y4
      have hDl : D ≠ l := fun z => by subst z; rw [tlD.p.ls] at hD; cases hD
      have rD := tlD.rn hD
      clear tlC y4
      refine lc_range (lo := 0) (n := ((nt : Int)).toNat) (fun i H2 => ∃ (nn LL : Int) (us : List V) (ts : List TL), Tl K c H2 d l ms nn LL lp L M00 [] ∧ nn ≤ n3 + 4 * (i : Int) ∧ H2 D = some (.lst us) ∧ LitAll H2 us (ts.map tkT) ∧ ts.length = i ∧ (∀ t ∈ ts, okT t)) ⟨n3, L3, [], [], tlD.same (Same.new (Same.refl _) hD), by omega, upd_same, .nil, rfl, fun t h => nomatch h⟩ ?_ ?_
      · rintro i H3 hi ⟨nn2, LL2, us, ts, tl2, hb2, c2, l2, hl2, ok2⟩
        rw [Int.zero_add]
        have hi12 : i < 12 := by omega
        refine ⟨rfl, yes_of (iteT ?_)⟩
        refine call_of ⟨_, rfl, _, rfl, _, rfl, _, i, 97 + i, rfl, rfl, (by decide +kernel), abc_at i hi12, "t", ⟨#[97 + i]⟩, rfl, rfl, (by show _ + 1 ≤ sizeLine; decide +kernel), ?_⟩
        rw [abc_t]
        refine ⟨d, l, ms, nn2, LL2, _, rfl, tl2.p, by omega, fun t v n' L' H' ht hm y lv => ?_⟩
        have b5 := y.hi
        have c3 := y.kp _ _ c2 (ne_of c2 tl2.p.dc (by intro z; cases z))
        have hot : okT t := ⟨hm, i, hi12, ht⟩
        have nl := noLL_tk ts
        have l3 := lit_oth (ys := us ++ [v]) (l2.dr tl2.p y) nl c3
        have lv3 := lit_oth (ys := us ++ [v]) (LitAll.cons lv .nil) (by rw [noLL, noL_tk]; rfl) c3
        refine ⟨us, c3, by rw [l2.len, List.length_map, hl2, PySem.sizeLine_eq]; omega, n', L', us ++ [v], ts ++ [t], (tl2.dr Y y).oth c3 rD hDl, by omega, upd_same, by rw [List.map_append]; exact l3.app lv3, by rw [List.length_append, hl2]; rfl, fun u hu => ?_⟩
        rcases List.mem_append.mp hu with hu | hu
        · exact ok2 u hu
        · rw [List.mem_singleton.mp hu]; exact hot
      rintro K5 ⟨n5, L5, us, ts, tlE, hb5, cD, lT, htl, okt⟩
      rw [Int.toNat_natCast] at hb5 htl
      clear hD t0 t1
      show tSeq _ _ _ [some (.ref a), some (.ref d), some (.str abc12), some (.int (j : Int)), some (.ref lp), some (.bl kp), some (.str wd), some (.ref D), x8, x9, x10, x11, x12, x13, x14, x15, x16, x17, x18, x19, x20, x21, x22, x23, x24] K5
      have hul : us.length = nt := by rw [lT.len, List.length_map, htl]
      refine par_of (cons_of (rd_dr (m := ((us.length : Nat) : Int) + 1) rfl (fun Q' h => ⟨_, rfl, D, us, rfl, .inl (SqL.of cD), _, _, rfl, rfl, h⟩) tlE.p (by omega) (by omega) (by omega) fun rc n6 L6 K6 c0 c1 y6 => cons_of (rd_dr (m := 3) rfl (fun _ h => h) y6.pn (by have := y6.hi; omega) (by decide) (by decide) fun rs n7 L7 K7 e0 e1 y7 => nilOf ⟨_, _, rfl, ?_⟩)))
      have b6 := y6.hi
      have b7 := y7.hi
      have nl := noLL_tk ts
      have lT7 := (lT.dr tlE.p y6).dr y6.pn y7
      have tlF := ((tlE.add cD rD).dr Y y6).dr Y y7
      obtain ⟨cut, rfl⟩ : ∃ i : Nat, rc = (i : Int) := ⟨rc.toNat, by omega⟩
      obtain ⟨spot, rfl⟩ : ∃ i : Nat, rs = (i : Int) := ⟨rs.toNat, by omega⟩
      have hcut : cut ≤ nt := by omega
      clear y6 y7 tlE lT cD c0 c1 e0 e1
      obtain ⟨cD, _⟩ := tlF.os (D, us) (List.mem_cons_self ..)
      show tSeq _ _ _ [some (.ref a), some (.ref d), some (.str abc12), some (.int (j : Int)), some (.ref lp), some (.bl kp), some (.str wd), some (.ref D), some (.int (cut : Int)), some (.int (spot : Int)), x10, x11, x12, x13, x14, x15, x16, x17, x18, x19, x20, x21, x22, x23, x24] K7
      -- how it ends, the deeds
      refine asg_n (mh_ixW (H0 := K7) (n := if kp = true then 1 else 0) (mh_cons (mh_tup (mh_cons mh_str (mh_cons mh_str (mh_cons (mh_var rfl (.str _)) mh_nil))) (Nat.le_of_ble_eq_true rfl)) (mh_cons (mh_tup (mh_cons mh_str (mh_cons mh_str (mh_cons (mh_var rfl (.str _)) mh_nil))) (Nat.le_of_ble_eq_true rfl)) mh_nil)) (Nat.le_of_ble_eq_true rfl) (mh_intB (b := kp) fun H Q _ q => ⟨_, rfl, q⟩) (ends12_ix kp wd) K7 _ (Same.refl _) fun ve K8 s8 lE => ?_)
      have lT8 := lT7.same s8
      have tlG := tlF.same s8
      have cD8 := s8 _ _ cD
      clear tlF lT7 cD
      show tSeq _ _ _ [some (.ref a), some (.ref d), some (.str abc12), some (.int (j : Int)), some (.ref lp), some (.bl kp), some (.str wd), some (.ref D), some (.int (cut : Int)), some (.int (spot : Int)), some ve, x11, x12, x13, x14, x15, x16, x17, x18, x19, x20, x21, x22, x23, x24] K8
      have hml : (ts.map tkT).length ≤ 1000 := by rw [List.length_map]; omega
      refine asg_n (mh_lc (K := K) (H0 := K8) (i := 23) (ds := ts.map tkT) (fun _ => true) dOf (mh_var rfl (.lst cD8 lT8)) hml (fun e he _ => noL_dOf he) (fun _ => rfl) (fun x e H2 Q _ _ _ q => q) (fun x e H2 he _ _ lx => ?_) K8 _ (Same.refl _) fun vD K9 s9 lD => ?_)
      · obtain ⟨t, _, rfl⟩ := List.mem_map.mp he
        exact mh_ixT (n := 3) rfl lx mh_int rfl
      rw [deeds12] at lD
      have lT9 := lT8.same s9
      have tlH := tlG.same s9
      have cD9 := s9 _ _ cD8
      have lE9 := lE.same s9
      clear tlG lT8 cD8 lE
      show tSeq _ _ _ [some (.ref a), some (.ref d), some (.str abc12), some (.int (j : Int)), some (.ref lp), some (.bl kp), some (.str wd), some (.ref D), some (.int (cut : Int)), some (.int (spot : Int)), some ve, some vD, x12, x13, x14, x15, x16, x17, x18, x19, x20, x21, x22, x23, x24] K9
      refine asg_n ⟨_, rfl, _, rfl, _, _, rfl, ?_⟩
      obtain ⟨at0, hat, hac⟩ : ∃ at0 : Nat, (if (cut : Int) < (spot : Int) then (cut : Int) else (spot : Int)) = (at0 : Int) ∧ at0 ≤ cut := by
        by_cases h : (cut : Int) < (spot : Int)
        · exact ⟨cut, if_pos h, Nat.le_refl _⟩
        · exact ⟨spot, if_neg h, by omega⟩
      rw [hat]
      clear hat
      show tSeq _ _ _ [some (.ref a), some (.ref d), some (.str abc12), some (.int (j : Int)), some (.ref lp), some (.bl kp), some (.str wd), some (.ref D), some (.int (cut : Int)), some (.int (spot : Int)), some ve, some vD, some (.int (at0 : Int)), x13, x14, x15, x16, x17, x18, x19, x20, x21, x22, x23, x24] K9
      have hdl : (ts.map thnD).length = nt := by rw [List.length_map, htl]
      have ix0 : HT.sIx (ts.map thnD).length (ts.map thnD).length (some ((at0 : Nat) : Int)) = at0 := by rw [HT.sIx_nat]; omega
      have ix1 : HT.sIx (ts.map thnD).length 0 (some ((at0 : Nat) : Int)) = at0 := by rw [HT.sIx_nat]; omega
      have ix2 : HT.sIx (ts.map thnD).length (ts.map thnD).length (some ((cut : Nat) : Int)) = cut := by rw [HT.sIx_nat]; omega
      have ix3 : HT.sIx (ts.map thnD).length 0 (some ((cut : Nat) : Int)) = cut := by rw [HT.sIx_nat]; omega
      refine asg_n (mh_catT (K := K) (H0 := K9) (mh_catT (K := K) (mh_catT (K := K) (mh_tup (mh_cons (mh_tup (mh_cons mh_str (mh_cons mh_str mh_nil)) (Nat.le_of_ble_eq_true rfl)) (mh_cons (mh_tup (mh_cons mh_str (mh_cons mh_str mh_nil)) (Nat.le_of_ble_eq_true rfl)) mh_nil)) (Nat.le_of_ble_eq_true rfl))
        (mh_tupL (mh_sl (K := K) (a := 0) (mh_var rfl lD) (fun H Q q => np_of q) (part_var rfl) rfl ix0)) (fun z => by cases z) (by simp only [List.length_take, List.length_drop, hdl, List.length_cons, List.length_nil]; omega))
        (mh_tup (mh_cons (mh_tup (mh_cons mh_str (mh_cons mh_str (mh_cons mh_str mh_nil))) (Nat.le_of_ble_eq_true rfl)) mh_nil) (Nat.le_of_ble_eq_true rfl)) (fun z => by cases z) (by simp only [List.length_append, List.length_take, List.length_drop, hdl, List.length_cons, List.length_nil]; omega))
        (mh_tupL (mh_sl (K := K) (mh_var rfl lD) (part_var rfl) (part_var rfl) ix1 ix2)) (fun z => by cases z) (by simp only [List.length_append, List.length_take, List.length_drop, hdl, List.length_cons, List.length_nil]; omega) K9 _ (Same.refl _) fun vT KA sA lO => ?_)
      have lTA := lT9.same sA
      have tlI := tlH.same sA
      have cDA := sA _ _ cD9
      have lEA := lE9.same sA
      have lDA := lD.same sA
      clear tlH lT9 cD9 lE9 lD
      show tSeq _ _ _ [some (.ref a), some (.ref d), some (.str abc12), some (.int (j : Int)), some (.ref lp), some (.bl kp), some (.str wd), some (.ref D), some (.int (cut : Int)), some (.int (spot : Int)), some ve, some vD, some (.int (at0 : Int)), some vT, x14, x15, x16, x17, x18, x19, x20, x21, x22, x23, x24] KA
      obtain ⟨ldx, il⟩ := tlI.isl
      refine gdrop_of ⟨_, rfl, lp, ldx, _, rfl, il, rfl, cons_of (mh_catT (K := K) (H0 := KA) (mh_catT (K := K) (mh_catT (K := K) (mh_var rfl lO) (mh_tup (mh_cons (mh_var rfl lEA) (mh_cons (mh_tup (mh_cons mh_str (mh_cons mh_str mh_nil)) (Nat.le_of_ble_eq_true rfl)) mh_nil)) (Nat.le_of_ble_eq_true rfl)) (fun z => by cases z) (by simp only [List.length_append, List.length_take, List.length_drop, hdl, List.length_cons, List.length_nil]; omega))
        (mh_tupL (mh_sl (K := K) (b := (ts.map thnD).length) (mh_var rfl lDA) (part_var rfl) (fun H Q q => np_of q) ix3 rfl)) (fun z => by cases z) (by simp only [List.length_append, List.length_take, List.length_drop, hdl, List.length_cons, List.length_nil]; omega))
        (mh_tup (mh_cons (mh_tup (mh_cons mh_str (mh_cons mh_str mh_nil)) (Nat.le_of_ble_eq_true rfl)) mh_nil) (Nat.le_of_ble_eq_true rfl)) (fun z => by cases z) (by simp only [List.length_append, List.length_take, List.length_drop, hdl, List.length_cons, List.length_nil]; omega) KA _ (Same.refl _) fun vP KB sB lP => ?_)⟩
      let l1 := ts.take at0
      let l2 := (ts.drop at0).take (cut - at0)
      let l3 := ts.drop cut
      rw [show _ = todo12 l1 l2 l3 kp wd from todo12_eq ts at0 cut kp wd htl.symm (by omega)] at lP
      have lTB := lTA.same sB
      have tlJ := tlI.same sB
      have cDB := sB _ _ cDA
      have hlen : l1.length + l2.length + l3.length ≤ 20 := by
        simp only [l1, l2, l3, List.length_take, List.length_drop]
        omega
      have hlen2 : l1.length + l2.length + l3.length = nt := by
        simp only [l1, l2, l3, List.length_take, List.length_drop]
        omega
      have oks : OkS (todo12 l1 l2 l3 kp wd) := okS12 (fun t ht => okt t (List.mem_of_mem_take ht)) (fun t ht => okt t (List.mem_of_mem_drop (List.mem_of_mem_take ht))) (fun t ht => okt t (List.mem_of_mem_drop ht)) hwd (by omega)
      refine ⟨rfl, rfl, post_of tlJ.isl tlJ.m rfl (by decide) rfl lP oks fun KC LC' mC stC => ?_⟩
      have lTC := lit_stp lTB nl stC tlJ.m.cr
      have tlK := tlJ.stp stC mC
      clear tlI tlJ lTA lTB cDA cDB lEA lDA lO lP il stC mC oks
      obtain ⟨ldx, il⟩ := tlK.isl
      obtain ⟨M', ht', hev, hsd, hmc, htk⟩ := run12 l1 l2 l3 kp wd hlen
      refine gdrop_of ⟨_, rfl, lp, ldx, _, rfl, il, rfl, lp, LC', _, 400, 1, M', rfl, ⟨ldx, il⟩, tlK.m, rfl, ht', fun KD LD' mD stD => ?_⟩
      have lTD := lit_stp lTC nl stD tlK.m.cr
      have tlL := tlK.stp stD mD
      clear tlK lTC il stD mD ht'
      obtain ⟨cD, _⟩ := tlL.os (D, us) (List.mem_cons_self ..)
      have iy0 : HT.sIx (ts.map tkT).length (ts.map tkT).length (some ((at0 : Nat) : Int)) = at0 := by rw [HT.sIx_nat, List.length_map]; omega
      have iy1 : HT.sIx (ts.map tkT).length 0 (some ((at0 : Nat) : Int)) = at0 := by rw [HT.sIx_nat, List.length_map]; omega
      have iy2 : HT.sIx (ts.map tkT).length (ts.map tkT).length (some ((cut : Nat) : Int)) = cut := by rw [HT.sIx_nat, List.length_map]; omega
      have iy3 : HT.sIx (ts.map tkT).length 0 (some ((cut : Nat) : Int)) = cut := by rw [HT.sIx_nat, List.length_map]; omega
      have slm : ∀ {a b : Nat} {e : PyData}, e ∈ ((ts.map tkT).drop a).take b → ∃ t, e = tkT t := fun h => by
        obtain ⟨t, _, rfl⟩ := List.mem_map.mp (List.mem_of_mem_drop (List.mem_of_mem_take h))
        exact ⟨t, rfl⟩
      have sll : ∀ {a b : Nat}, (((ts.map tkT).drop a).take b).length ≤ 1000 := fun {a b} => by rw [List.length_take, List.length_drop, List.length_map]; omega
      show tSeq _ _ _ [some (.ref a), some (.ref d), some (.str abc12), some (.int (j : Int)), some (.ref lp), some (.bl kp), some (.str wd), some (.ref D), some (.int (cut : Int)), some (.int (spot : Int)), some ve, some vD, some (.int (at0 : Int)), some vT, x14, x15, x16, x17, x18, x19, x20, x21, x22, x23, x24] KD
      refine asg_n (mh_lc (K := K) (H0 := KD) (i := 23) (ds := ((ts.map tkT).drop 0).take (at0 - 0)) (isNm "p") id (mh_sl (K := K) (a := 0) (mh_var rfl (.lst cD lTD)) (fun H Q q => np_of q) (part_var rfl) rfl iy0) sll (fun e he _ => by obtain ⟨t, rfl⟩ := slm he; exact noL_tk t) (fun _ => rfl)
        (fun x e H2 Q he _ lx q => by obtain ⟨t, rfl⟩ := slm he; exact tst_tk rfl lx q) (fun x e H2 _ _ _ lx => mh_var rfl lx) KD _ (Same.refl _) fun vE KE sE lE => ?_)
      show tSeq _ _ _ [some (.ref a), some (.ref d), some (.str abc12), some (.int (j : Int)), some (.ref lp), some (.bl kp), some (.str wd), some (.ref D), some (.int (cut : Int)), some (.int (spot : Int)), some ve, some vD, some (.int (at0 : Int)), some vT, some vE, x15, x16, x17, x18, x19, x20, x21, x22, x23, x24] KE
      refine asg_n (mh_lc (K := K) (H0 := KE) (i := 23) (ds := ((ts.map tkT).drop 0).take (cut - 0)) (isNm "q") id (mh_sl (K := K) (a := 0) (mh_var rfl (.lst (sE _ _ cD) (lTD.same sE))) (fun H Q q => np_of q) (part_var rfl) rfl iy2) sll (fun e he _ => by obtain ⟨t, rfl⟩ := slm he; exact noL_tk t) (fun _ => rfl)
        (fun x e H2 Q he _ lx q => by obtain ⟨t, rfl⟩ := slm he; exact tst_tk rfl lx q) (fun x e H2 _ _ _ lx => mh_var rfl lx) KE _ (Same.refl _) fun vF KF sF lF => ?_)
      show tSeq _ _ _ [some (.ref a), some (.ref d), some (.str abc12), some (.int (j : Int)), some (.ref lp), some (.bl kp), some (.str wd), some (.ref D), some (.int (cut : Int)), some (.int (spot : Int)), some ve, some vD, some (.int (at0 : Int)), some vT, some vE, some vF, x16, x17, x18, x19, x20, x21, x22, x23, x24] KF
      have lE := lE.same sF
      have sEF := sE.trans sF
      have cF := sEF _ _ cD
      have lTF := lTD.same sEF
      have fl : ∀ {a b : Nat} {p : PyData → Bool}, ((((ts.map tkT).drop a).take b).filter p |>.map id).length ≤ nt := fun {a b p} => by
        rw [List.length_map]
        refine Nat.le_trans (List.length_filter_le _ _) ?_
        rw [List.length_take, List.length_drop, List.length_map]; omega
      have lst4 : (((ts.map tkT).drop cut).take ((ts.map tkT).length - cut)).length ≤ nt := by rw [List.length_take, List.length_drop, List.length_map]; omega
      refine asg_n (mh_catL (H0 := KF) (mh_catL (mh_catL (mh_var rfl lE) (mh_var rfl lF) (by have h1 := fl (a := 0) (b := at0 - 0) (p := isNm "p"); have h2 := fl (a := 0) (b := cut - 0) (p := isNm "q"); omega))
        (mh_lc (K := K) (i := 23) (ds := ((ts.map tkT).drop at0).take (cut - at0)) (isNm "p") id (mh_sl (K := K) (mh_var rfl (.lst cF lTF)) (part_var rfl) (part_var rfl) iy1 iy2) sll (fun e he _ => by obtain ⟨t, rfl⟩ := slm he; exact noL_tk t) (fun _ => rfl)
          (fun x e H2 Q he _ lx q => by obtain ⟨t, rfl⟩ := slm he; exact tst_tk rfl lx q) (fun x e H2 _ _ _ lx => mh_var rfl lx)) (by have h1 := fl (a := 0) (b := at0 - 0) (p := isNm "p"); have h2 := fl (a := 0) (b := cut - 0) (p := isNm "q"); have h3 := fl (a := at0) (b := cut - at0) (p := isNm "p"); rw [List.length_append]; omega))
        (mh_sl (K := K) (b := (ts.map tkT).length) (mh_var rfl (.lst cF lTF)) (part_var rfl) (fun H Q q => np_of q) iy3 rfl) (by have h1 := fl (a := 0) (b := at0 - 0) (p := isNm "p"); have h2 := fl (a := 0) (b := cut - 0) (p := isNm "q"); have h3 := fl (a := at0) (b := cut - at0) (p := isNm "p"); have h4 := lst4; rw [List.length_append, List.length_append]; omega) KF _ (Same.refl _) fun vO KG sG lO => ?_)
      rw [order12_eq ts at0 cut (by omega) (by omega)] at lO
      have tlM := tlL.same (sEF.trans sG)
      clear tlL lE lF cF lTF
      show tSeq _ _ _ [some (.ref a), some (.ref d), some (.str abc12), some (.int (j : Int)), some (.ref lp), some (.bl kp), some (.str wd), some (.ref D), some (.int (cut : Int)), some (.int (spot : Int)), some ve, some vD, some (.int (at0 : Int)), some vT, some vE, some vF, some vO, x17, x18, x19, x20, x21, x22, x23, x24] KG
      refine asg_n (mh_lst (H0 := KG) (mh_cons mh_str (mh_cons mh_str mh_nil)) (Nat.le_of_ble_eq_true rfl) KG _ (Same.refl _) fun vW KH sH lW => ?_)
      have lO := lO.same sH
      have tlN := tlM.same sH
      clear tlM
      show tSeq _ _ _ [some (.ref a), some (.ref d), some (.str abc12), some (.int (j : Int)), some (.ref lp), some (.bl kp), some (.str wd), some (.ref D), some (.int (cut : Int)), some (.int (spot : Int)), some ve, some vD, some (.int (at0 : Int)), some vT, some vE, some vF, some vO, some vW, x18, x19, x20, x21, x22, x23, x24] KH
      cases lO with | @lst oA os _ eO hO =>
      have hol : os.length = (order12 l1 l2 l3).length := by rw [hO.len, List.length_map]
      refine ⟨_, rfl, oA, rfl, ⟨_, SqL.of eO⟩, for_list (xs := os) (fun i σ H2 => ∃ (v17 : V) (y18 y19 y20 y21 : Option V), σ = [some (.ref a), some (.ref d), some (.str abc12), some (.int (j : Int)), some (.ref lp), some (.bl kp), some (.str wd), some (.ref D), some (.int (cut : Int)), some (.int (spot : Int)), some ve, some vD, some (.int (at0 : Int)), some vT, some vE, some vF, some (.ref oA), some v17, y18, y19, y20, y21, x22, x23, x24] ∧ Same KH H2 ∧ Lit H2 v17 (.list ([.str "here", .str "end"] ++ says12 (endF12 kp wd) ((order12 l1 l2 l3).take i)))) ?_ ?_ ?_ ?_⟩
      · exact ⟨vW, x18, x19, x20, x21, rfl, Same.refl _, by rw [List.take_zero]; exact lW⟩
      · rintro i σ H2 _ ⟨v17, y18, y19, y20, y21, rfl, sI, _⟩
        exact SqL.of (sI _ _ eO)
      · rintro i x σ H2 hx ⟨v17, y18, y19, y20, y21, rfl, sI, lWi⟩
        obtain ⟨e, he, le⟩ := hO.back hx
        rw [List.getElem?_map] at he
        obtain ⟨t, ht, rfl⟩ : ∃ t, (order12 l1 l2 l3)[i]? = some t ∧ tkT t = e := by
          cases hq : (order12 l1 l2 l3)[i]? with
          | none => rw [hq] at he; cases he
          | some t => rw [hq] at he; exact ⟨t, rfl, Option.some.inj he⟩
        have hsn : says12 (endF12 kp wd) ((order12 l1 l2 l3).take (i + 1)) = says12 (endF12 kp wd) ((order12 l1 l2 l3).take i) ++ saysT (endF12 kp wd) t.m t.x := by
          rw [List.take_succ, ht]
          unfold says12
          rw [List.flatMap_append]
          simp
        have hil : i < (order12 l1 l2 l3).length := (List.getElem?_eq_some_iff.mp ht).1
        have hsl := says12_len (endF12 kp wd) ((order12 l1 l2 l3).take i)
        have hord : (order12 l1 l2 l3).length = nt := by
          have := order12_len l1 l2 l3
          omega
        have le := le.same sI
        cases le with | @tup ta txs _ et hx4 =>
        cases hx4 with | cons h1 hx4 =>
        cases hx4 with | cons h2 hx4 =>
        cases hx4 with | cons h3 hx4 =>
        cases hx4 with | cons h4 hx4 =>
        cases hx4
        cases h1
        cases h2
        cases h3
        refine ⟨_, _, rfl, SqT.of et, rfl, _, _, rfl, _, _, rfl, _, _, rfl, _, _, rfl, rfl, ?_⟩
        rename_i v4
        show tIfS _ _ _ _ [some (.ref a), some (.ref d), some (.str abc12), some (.int (j : Int)), some (.ref lp), some (.bl kp), some (.str wd), some (.ref D), some (.int (cut : Int)), some (.int (spot : Int)), some ve, some vD, some (.int (at0 : Int)), some vT, some vE, some vF, some (.ref oA), some v17, some (.str t.nm), some (.int (t.m : Int)), some (.str t.x), some v4, x22, x23, x24] H2
        refine ⟨_, rfl, mh_ixW (K := K) (H0 := H2) (n := if kp = true then 1 else 0) (mh_cons mh_int (mh_cons mh_int mh_nil)) (Nat.le_of_ble_eq_true rfl) (mh_intB (b := kp) fun H Q _ q => ⟨_, rfl, q⟩) (two12_ix kp) H2 _ (Same.refl _) fun vx H3 s3 l3 => ?_⟩
        cases l3
        refine ⟨rfl, _, rfl, ?_⟩
        have lW3 := lWi.same s3
        cases hm : saysNo kp t.m with
        | true =>
          rw [show (!decide (V.int (t.m : Int) = V.int (if kp = true then 1 else 2))) = false from says_no hm]
          refine iteF ⟨v17, _, _, _, _, rfl, sI.trans s3, ?_⟩
          rw [hsn, says_none hm, List.append_nil]
          exact lW3
        | false =>
          rw [show (!decide (V.int (t.m : Int) = V.int (if kp = true then 1 else 2))) = true from says_yes hm]
          have hl5 : (if kp = true then ([.str wd, .str t.x] : List PyData) else [.str t.x, .str wd]).length = 2 := by cases kp <;> rfl
          have hl6 : (([.str "here", .str "end"] : List PyData) ++ says12 (endF12 kp wd) ((order12 l1 l2 l3).take i)).length + (if kp = true then ([.str wd, .str t.x] : List PyData) else [.str t.x, .str wd]).length ≤ 1000 := by
            rw [hl5, List.length_append]
            rw [List.length_take] at hsl
            show 2 + _ + 2 ≤ 1000
            omega
          refine iteT (asg_1 (mh_catL (H0 := H3) (ys := if kp = true then [.str wd, .str t.x] else [.str t.x, .str wd]) (mh_var rfl lW3) (mh_castL (mh_if (b := kp) (d := .list [.str wd, .str t.x]) (e := .list [.str t.x, .str wd]) (fun H Q q => ⟨_, rfl, _, rfl, q⟩) (fun _ => mh_lst (mh_cons (mh_var rfl (.str _)) (mh_cons (mh_var rfl (.str _)) mh_nil)) (Nat.le_of_ble_eq_true rfl)) (fun _ => mh_lst (mh_cons (mh_var rfl (.str _)) (mh_cons (mh_var rfl (.str _)) mh_nil)) (Nat.le_of_ble_eq_true rfl)))) hl6 H3 _ (Same.refl _) fun vN H4 s4 l4 => ⟨vN, _, _, _, _, rfl, (sI.trans s3).trans s4, ?_⟩))
          rw [hsn, says_some hm, ← List.append_assoc]
          exact l4
      rintro σ KI ⟨v17, y18, y19, y20, y21, rfl, sI, lWz⟩
      rw [hol, List.take_length] at lWz
      have tlO := tlN.same sI
      clear tlN lW
      obtain ⟨cD, _⟩ := tlO.os (D, us) (List.mem_cons_self ..)
      have hel := tlO.m.ar.bd
      obtain ⟨ldx, il⟩ := tlO.isl
      cases lWz with | @lst wA ws _ eW hW =>
      refine ⟨_, rfl, lp, ldx, _, rfl, il, rfl, lp, LD', M', rfl, ⟨ldx, il⟩, tlO.m, fun DJ xs KJ hJ sJ eJ dJ => ⟨DJ, rfl, ⟨_, SqL.of eJ⟩, fun Dl hDl => ?_⟩⟩
      refine lc_dt selS thE eJ hDl (by rw [dJ.len]; omega) (fun _ => rfl) dJ (fun x e H2 Q he _ dx q => ?_) (fun x e H2 Q he _ _ dx hq => ?_) fun KK uS sK eK dK => ?_
      · obtain ⟨t, v0, v2, y, vr, d2, r, rfl, sq, rfl, hd2, hr⟩ := ev_at (hev e he) dx
        exact ⟨_, rfl, t, _, 1, .str y, rfl, rfl, sq, atI_nat (j := 1) rfl, rfl, _, rfl, by rw [sel_str]; exact q⟩
      · obtain ⟨t, v0, v2, y, vr, d2, r, rfl, sq, rfl, hd2, hr⟩ := ev_at (hev e he) dx
        exact ⟨_, rfl, t, _, 2, v2, rfl, rfl, sq, atI_nat (j := 2) rfl, hq _ _ (Same.refl _) hd2⟩
      rw [hsd] at dK
      have sJK := sJ.trans sK
      have hall : ∀ e ∈ ([.str "here", .str "end"] ++ says12 (endF12 kp wd) (order12 l1 l2 l3) : List PyData), ∃ x, e = .str x ∧ PyData.strOk x = true := fun e he => by
        rcases List.mem_append.mp he with he | he
        · exact here_ok he
        · obtain ⟨t, ht, he⟩ := List.mem_flatMap.mp he
          refine says_ok hwd (okt t ?_) he
          rcases order12_mem ht with ht | ht | ht
          · exact List.mem_of_mem_take ht
          · exact List.mem_of_mem_drop (List.mem_of_mem_take ht)
          · exact List.mem_of_mem_drop ht
      refine ⟨_, rfl, ne_eqD (d := .list ([.str "here", .str "end"] ++ says12 (endF12 kp wd) (order12 l1 l2 l3))) (.lst (SqL.of eK) dK.dp) (.lst (SqL.of (sJK _ _ eW)) (hW.same sJK).dp) (shp_strs hall) (iteF ?_)⟩
      have tlP := tlO.same sJK
      have cD := sJK _ _ cD
      clear tlO sJ sK eJ dJ hJ hDl eK dK eW hW il sJK
      obtain ⟨ldx, il⟩ := tlP.isl
      refine nxt_r ?_
      refine ⟨_, rfl, lp, ldx, _, rfl, il, rfl, lp, LD', M', rfl, ⟨ldx, il⟩, tlP.m, fun DJ xs KJ hJ sJ eJ dJ => ⟨DJ, rfl, ⟨_, SqL.of eJ⟩, fun Dl hDl => ?_⟩⟩
      refine lc_dt selMc id eJ hDl (by rw [dJ.len]; omega) (fun _ => rfl) dJ (fun x e H2 Q he _ dx q => ?_) (fun x e H2 Q he _ _ dx hq => ?_) fun KL uM sL eL dL => ?_
      · obtain ⟨t, v0, v2, y, vr, d2, r, rfl, sq, rfl, hd2, hr⟩ := ev_at (hev e he) dx
        exact ⟨_, rfl, t, _, 1, .str y, rfl, rfl, sq, atI_nat (j := 1) rfl, rfl, _, rfl, by rw [sel_mc]; exact q⟩
      · exact ⟨_, rfl, hq _ _ (Same.refl _) dx⟩
      have hml2 : uM.length = us.length := by rw [dL.len, List.length_map, hmc, hul, hlen2]
      have sJL := sJ.trans sL
      refine ⟨Dl, uM, rfl, .inl (SqL.of eL), _, rfl, D, us, rfl, .inl (SqL.of (sJL _ _ cD)), rfl, _, rfl, ?_⟩
      rw [hml2, decide_eq_true rfl]
      refine iteF ?_
      have tlQ := tlP.same sJL
      exact ⟨n7, L7, _, _, _, _, _, _, _, _, _, _, _, _, _, _, _, _, _, _, _, _, _, _, rfl, tlQ.p, by omega⟩
    · rintro σ H3 ⟨nn, LL, x3, x4, x5, x6, x7, x8, x9, x10, x11, x12, x13, x14, x15, x16, x17, x18, x19, x20, x21, x22, x23, x24, rfl, _, _⟩
      exact k H3
end
end My

set_option Elab.async false
set_option linter.all false
set_option maxRecDepth 100000
set_option maxHeartbeats 4000000
namespace L2
open PySem PySem.Spec PyProof.Rows My
/-- no defaults: positional values and keywords -/
theorem FunD.kbindsN {K : PySem.W.Frag} {x qual : Str} {params : Arguments} {body : List Stmt} {scope : Scope} {kws : List (Str × V)} {f : Addr} {fd : FuncData} {ps : List Str} (F : FunD K x qual params body scope [] kws f fd) (n : Nat) (ks : List Str) (g : {α : Type} → List α → List α → List α)
    (hrel : ∀ {vs zs : List V} {us ws : List Value}, Vals vs us → Vals zs ws → Vals (g vs zs) (g us ws))
    (h : ∀ (kV doc pm : Value) (an : Option Addr) (cdv ct : Value) (us ws : List Value), us.length = n → ws.length = ks.length → bindArgs (PySem.W.fnOf x qual params body scope .none kV doc pm an cdv ct) ⟨us, ks.zip ws⟩ = pure (ps.zip (g us ws))) :
    KBn K fd ps n ks (fun us ws => g us ws) (fun vs zs => g vs zs) := by
  obtain ⟨oc, od, dV, kV, doc, pm, an, cdv, ct, osl, rfl, lk, hcd, hD, hK⟩ := F.ex
  rcases hD with ⟨_, rfl⟩ | ⟨e, _⟩
  · exact ⟨fun s us ws X l1 l2 => .of_eq (h kV doc pm an cdv ct us ws l1 l2), fun r1 r2 => hrel r1 r2⟩
  · exact absurd rfl e
end L2
namespace My
open PySem L2 PyProof.Rows
section
variable {P : Program} {w : World} {K : PySem.W.Frag} {mg : Str → Option Value} {pB : Heap}
theorem ok_gat0 {c : CC} {k : Nat} {f : Addr} {fd : FuncData} {ps : List Str} : FnOk P w K mg pB CX0 k f fd ps (spGat K c noGA) :=
  ⟨fun _ _ _ _ ⟨_, _, _, _, _, _, _, _, _, _, h, _⟩ => h.elim, fun _ _ _ _ _ _ _ _ _ _ _ _ _ ⟨_, _, _, _, _, _, _, _, _, _, h, _⟩ => h.elim⟩
theorem ok_er0 {c : CC} {k : Nat} {f : Addr} {fd : FuncData} {ps : List Str} : FnOk P w K mg pB CX0 k f fd ps (spEr K c noER) :=
  ⟨fun _ _ _ _ ⟨_, _, _, _, _, _, _, h, _⟩ => h.elim, fun _ _ _ _ _ _ _ _ _ _ _ _ _ ⟨_, _, _, _, _, _, _, h, _⟩ => h.elim⟩
theorem beg_of {c : CC} {A : ActR} {R : Tk → Prop} {k : Nat} {f : Addr} {fd : FuncData} (F : FnOk P w K mg pB CX0 k f fd ["state", "work", "fate"] (spBegin K c A R)) : FnOk P w K mg pB CX0 k f fd ["state", "work", "fate"] (spBegB K c (begP A R)) :=
  FnOk.imp F fun vs H Q E ⟨L, M, M', w, fo, vw, vf, e, m, hw, df, ⟨hf, ha, hst, r, M1, h1, h2⟩, ht, k⟩ => by
    subst hf
    cases df
    exact ⟨L, M, w, M1, M', r, vw, e, m, hw, ha, hst, h1, h2, ht, k⟩
theorem tupC_ok {a : Addr} {vs : List V} (h : tupB2 K a vs = true) : CTup K a vs := by
  unfold tupB2 at h
  cases q : K.lookup a with
  | none =>
    rw [q] at h
    cases h
  | some o =>
    obtain ⟨oc, od, dt, osl⟩ := o
    rw [q] at h
    cases oc with
    | type c =>
      cases dt with
      | seq its n =>
        obtain ⟨h1, h2⟩ := He.ba (show (decide (c = "tuple") && (decide (its.size ≤ sizeLine) && He.relAll vs its.toList)) = true from h)
        obtain ⟨h3, h4⟩ := He.ba h2
        exact ⟨_, its, n, q, congrArg Value.type (of_decide_eq_true h1), rfl, of_decide_eq_true h3, He.relAll_ok h4⟩
      | _ => cases h
    | _ => cases dt <;> cases h
theorem tupB2_ok {a : Addr} {vs : List V} (h : tupB2 K a vs = true) (H : Hp) : SqT K H a vs := (tupC_ok h).at H
theorem fun_of {x qual : Str} {st : Stmt} {f : Addr} {fd : FuncData} {kws : List (Str × V)} (F : FunD K x qual (defArgs st) (defBody st) (defScope st) [] kws f fd) : Fun K x qual st f fd := by
  obtain ⟨oc, od, dV, kV, doc, pm, an, cdv, ct, osl, rfl, lk, hcd, hD, _⟩ := F.ex
  rcases hD with ⟨_, rfl⟩ | ⟨e, _⟩
  · exact ⟨⟨oc, od, kV, doc, pm, an, cdv, ct, osl, rfl, lk, hcd⟩, F.kp⟩
  · exact absurd rfl e
theorem vals_rev : ∀ {vs : List V} {us : List Value}, Vals vs us → Vals vs.reverse us.reverse
  | _, _, .nil => .nil
  | _, _, .cons h t => by rw [List.reverse_cons, List.reverse_cons]; exact (vals_rev t).append (.cons h .nil)
theorem relV_ref {a : Addr} {u : Value} (h : RelV (.ref a) u) : u = .ref a := h
theorem isStr_key {x y : Str} {t : Tok} : (Value.str y t).isStr x = decide (y = x) := by
  rw [PySem.W.isStr_of]
  show (y == x) = decide (y = x)
  by_cases h : y = x
  · rw [decide_eq_true h, h, beq_self_eq_true]
  · rw [decide_eq_false h]
    exact beq_eq_false_iff_ne.mpr h
theorem keys_none {P : Params} {x : Str} : ∀ {l : List DictEntry} {ks : List Str}, l.map He.keyOf = He.keysIn P ks → x ∉ ks → l.find? (·.key.isStr x) = none ∧ l.any (·.refKey) = false
  | [], _, _, _ => ⟨rfl, rfl⟩
  | e :: r, [], h, _ => by cases h
  | e :: r, k :: ks, h, hx => by
    have h1 : He.keyOf e :: r.map He.keyOf = some (k, PyData.keyHash P k) :: He.keysIn P ks := h
    injection h1 with h2 h3
    have ih := keys_none h3 (fun z => hx (List.mem_cons_of_mem _ z))
    unfold He.keyOf at h2
    split at h2
    · rename_i y t q
      have h4 := Option.some.inj h2
      obtain ⟨h5, _⟩ := Prod.mk.inj h4
      have hne : y ≠ x := fun z => hx (by rw [← z, h5]; exact List.mem_cons_self ..)
      have e1 : e.key.isStr x = false := by rw [q, isStr_key, decide_eq_false hne]
      refine ⟨by rw [List.find?_cons_of_neg (by rw [e1]; decide)]; exact ih.1, ?_⟩
      rw [List.any_cons, ih.2, Bool.or_false]
      show e.refKey = false
      unfold DictEntry.refKey
      rw [q]
    · cases h2
theorem tab_none {a : Addr} {ks : List Str} (h : He.dicW K a = some (He.keysIn w.params ks)) {x : Str} (hx : x ∉ ks) : PySem.W.nsIn K a x = some none := by
  obtain ⟨es, n, kd⟩ := He.dicW_ok h
  unfold He.dicW at h
  rw [kd.at_] at h
  have h1 : (match decide (("dict" : String) = "dict") && ((#[] : Array (Option Value)).isEmpty && !(a == sysModules)) with
    | true => some (es.toList.map He.keyOf)
    | false => none) = some (He.keysIn w.params ks) := h
  rw [kd.low] at h1
  have h2 := Option.some.inj (show some (es.toList.map He.keyOf) = some (He.keysIn w.params ks) from h1)
  obtain ⟨f1, f2⟩ := keys_none h2 hx
  unfold PySem.W.nsIn
  rw [kd.at_]
  show (match es.toList.find? (·.key.isStr x) with | some e => some (some e.val) | none => if es.toList.any (·.refKey) then none else some none) = _
  rw [f1, f2]
  rfl
theorem formT_eq : formT = formL.map fun p => (p.1, p.2.map kname) := by decide +kernel
theorem deedsX {ks : List Str} (m : mg "DEEDS" = some (.ref (He.ga K "DEEDS"))) (hd : He.dicW K (He.ga K "DEEDS") = some (He.keysIn w.params ks)) (hk : ks = formL.map (·.1)) (ck : chkD K = true) : ∃ es n, Deeds K w mg (He.ga K "DEEDS") es n := by
  obtain ⟨es, n, kd⟩ := He.dicW_ok hd
  refine ⟨es, n, m, kd, fun x ls h => ?_, fun x h => tab_none hd ?_⟩
  · unfold formOf at h
    obtain ⟨p, hp, rfl⟩ := Option.map_eq_some_iff.mp h
    have hm := List.mem_of_find?_eq_some hp
    have he : p.1 = x := by simpa using List.find?_some hp
    have ht : (p.1, p.2.map kname) ∈ formT := by rw [formT_eq]; exact List.mem_map_of_mem hm
    have hc : tupAt K (He.ga K "DEEDS") p.1 (p.2.map kname) = true := List.all_eq_true.mp ck _ ht
    rw [he] at hc
    obtain ⟨c1, c2⟩ := He.ba (show (tupB2 K (tAdr K (He.ga K "DEEDS") x) ((p.2.map kname).map V.str) && He.valsB K (He.ga K "DEEDS") [(x, .adr fun K => tAdr K (He.ga K "DEEDS") x)]) = true from hc)
    obtain ⟨u, eu, ru⟩ := He.valsB_ok c2 (q := (x, .adr fun K => tAdr K (He.ga K "DEEDS") x)) (List.mem_singleton.mpr rfl)
    rw [relV_ref ru] at eu
    refine ⟨tAdr K (He.ga K "DEEDS") x, eu, fun H => ?_⟩
    have := tupB2_ok c1 H
    rw [List.map_map] at this
    exact this
  · rw [hk]
    intro hm
    obtain ⟨p, hp, rfl⟩ := List.mem_map.mp hm
    unfold formOf at h
    have := List.find?_eq_none.mp (Option.map_eq_none_iff.mp h) p hp
    simp at this
structure ChkX (K : PySem.W.Frag) (i : Nat) (bmB : List Value) (newId : String) (fld : Str) : Prop where
  a1 : PySem.W.excInitIn K (xAd K i) bmB newId = true
  a2 : PySem.W.excOver K (xAd K i) bmB = true
  a3 : PySem.W.findIn K (.ref (xAd K i)) "__setattr__" = some (some (.builtin "object.__setattr__"))
  a4 : PySem.W.hasDictIn K (xAd K i) = true
  a5 : PySem.W.keepIn K (.ref (xAd K i)) = true
  a6 : PySem.W.findIn K (.ref (xAd K i)) "__getattribute__" = some (some (.builtin "BaseException.__getattribute__"))
  a7 : PySem.W.findIn K (.ref (xAd K i)) "__getattr__" = some none
  a8 : PySem.W.subIn K (.ref (xAd K i)) (.type "BaseException") = some true
  a9 : PySem.W.findIn K (.ref (xAd K i)) "__class__" = some (some (.builtin "object.__class__"))
  b1 : PySem.W.specialIn K (.builtin "object.__class__") "__get__" = some (some (.builtin "getset_descriptor.__get__"))
  b2 : PySem.W.takesIn K (.builtin "object.__class__") = some true
  b3 : PySem.W.mroIn K (xAd K i) (.type "object") = some true
  b4 : PySem.W.findIn K (.ref (xAd K i)) fld = some none
  c1 : PySem.W.typeIn K (.ref (xAd K i)) = some (.type "type")
  c2 : PySem.W.findIn K (.ref (xAd K i)) "__init__" = some (some (.ref (He.ma K (xAd K i) "__init__")))
  c3 : PySem.W.typeIn K (.ref (He.ma K (xAd K i) "__init__")) = some (.type "function")
theorem chkX_ok {i : Nat} {bmB : List Value} {newId : String} {fld : Str} (h : chkX K i bmB newId fld = true) : ChkX K i bmB newId fld := by
  unfold chkX at h
  simp only [Bool.and_eq_true, decide_eq_true_eq] at h
  obtain ⟨a1, a2, a3, a4, a5, a6, a7, a8, a9, b1, b2, b3, b4, c1, c2, c3⟩ := h
  exact ⟨a1, a2, a3, a4, a5, a6, a7, a8, a9, b1, b2, b3, b4, c1, c2, c3⟩
theorem xcX {i : Nat} {T B B' newId initId : String} {bmB bmF : List Value} {fld : Str} (c : ChkX K i bmB newId fld) (F : ExcBaseFacts B newId initId bmF) (S : StoreFacts B' bmB "object.__setattr__" "object") (tl : Tail B bmB) (hT : bmB.contains (.type T) = true) : XC K (xAd K i) T :=
  ⟨⟨B, newId, initId, bmB, bmF, c.a1, F, tl, hT⟩, ⟨B', bmB, S, c.a2⟩, c.a3, c.a4, c.a5, c.a6, c.a7, c.a8, c.a9, c.b1, c.b2, c.b3⟩
theorem ChkX.xk {i : Nat} {bmB : List Value} {newId : String} {fld : Str} (c : ChkX K i bmB newId fld) : XkC K (xAd K i) := ⟨c.a4, c.a6, c.a7, c.a8, c.a9, c.b1, c.b2, c.b3⟩
theorem ChkX.xf {i : Nat} {bmB : List Value} {newId : String} {fld : Str} (c : ChkX K i bmB newId fld) : XfC K (xAd K i) := ⟨c.a6, c.a7, c.a8, c.a4⟩
theorem tlValueError : Tail "ValueError" veTl := ⟨by decide +kernel, by decide +kernel, by decide +kernel⟩
theorem tlIndexError : Tail "IndexError" ieTl := ⟨by decide +kernel, by decide +kernel, by decide +kernel⟩
theorem tlKeyError : Tail "LookupError" keTl := ⟨by decide +kernel, by decide +kernel, by decide +kernel⟩
theorem vVV (K : PySem.W.Frag) : PySem.W.findCls K (.type "ValueError") (.type "type") "__init__" = some (.val (.builtin "ValueError.__init__")) := by kernel_rfl
theorem vVI (K : PySem.W.Frag) : PySem.W.findCls K (.type "IndexError") (.type "type") "__init__" = some (.val (.builtin "IndexError.__init__")) := by kernel_rfl
theorem vVK (K : PySem.W.Frag) : PySem.W.findCls K (.type "KeyError") (.type "type") "__init__" = some (.val (.builtin "KeyError.__init__")) := by kernel_rfl
theorem ne_of_b {a b : Addr} (h : (!(a == b)) = true) : a ≠ b := fun z => by rw [z, beq_self_eq_true] at h; cases h
end
end My

set_option Elab.async false
set_option linter.all false
set_option maxRecDepth 100000
set_option maxHeartbeats 4000000
namespace My
open PySem L2 PyProof.Rows
section
variable {P : Program} {w : World} {K : PySem.W.Frag} {mg : Str → Option Value}
theorem facts {h : Heap} {f : Addr} (X : K.In h) (G : h.Ns mainGlobals mg) (hfa : mg ("law" : Str) = some (.ref f)) (cc : obK K = (He.valT fn ts w, true)) :
    ∃ fd : FuncData, (∀ (s : Shared) (v : Value), BindsTo s fd ⟨[v], []⟩ [("_law_script", v)]) ∧ ∀ base : Heap, K.In base → base.Ns mainGlobals mg → FnOk P w K mg base CX0 23 f fd ["_law_script"] (spLaw K) := by
  have ct : He.SaysT fa fn ts w K := congrArg (fun z : AlY => z.1) cc
  have cx : ex K = true := congrArg (fun z : AlY => z.2) cc
  have cd := ct.d
  obtain ⟨cx, xSe⟩ := He.ba cx
  obtain ⟨cx, xOp⟩ := He.ba cx
  obtain ⟨cx, xS⟩ := He.ba cx
  obtain ⟨cx, xP⟩ := He.ba cx
  obtain ⟨cx, xC⟩ := He.ba cx
  obtain ⟨cx, xD⟩ := He.ba cx
  obtain ⟨cx, xN⟩ := He.ba cx
  obtain ⟨x2, x7⟩ := He.ba cx
  have xS := of_decide_eq_true xS
  have c2 := chkX_ok (show chkX K 2 veTl "ValueError.__new__" "thing" = true from x2)
  have c7 := chkX_ok (show chkX K 7 ieTl "IndexError.__new__" "rank" = true from x7)
  have kOp := tupC_ok xOp
  have kSe := tupC_ok xSe
  obtain ⟨n1, xN⟩ := He.ba (show (!(He.ga K "State" == He.ga K "Work") && (!(He.ga K "State" == He.ga K "Setup") && (!(He.ga K "Book" == He.ga K "Work") && (!(He.ga K "Book" == He.ga K "Setup") && (!(He.ga K "Loop" == He.ga K "Work") && !(He.ga K "Loop" == He.ga K "Setup")))))) = true from xN)
  obtain ⟨n2, xN⟩ := He.ba xN
  obtain ⟨n3, xN⟩ := He.ba xN
  obtain ⟨n4, xN⟩ := He.ba xN
  obtain ⟨n5, n6⟩ := He.ba xN
  obtain ⟨es1, nn1, kd1⟩ := ct.tab 1 rfl
  obtain ⟨es2, nn2, kd2⟩ := ct.tab 2 rfl
  have hd0 : He.dicW K (He.ga K "DEEDS") = some (He.keysIn w.params (formL.map (·.1))) := by
    have e := congrArg (fun z : He.AlT => z.2[0]?) ct
    exact Option.some.inj (show some (He.dicW K (He.ga K "DEEDS")) = some (some (He.keysIn w.params (formL.map (·.1)))) from e)
  have xP : He.valsB K (He.ga K "PLAIN") kvP = true := xP
  obtain ⟨u0, eP0, rP0⟩ := He.valsB_ok xP (q := ("say", .glo "do_say")) (List.mem_of_getElem? (i := 0) rfl)
  obtain ⟨u1, eP1, rP1⟩ := He.valsB_ok xP (q := ("echo", .glo "do_echo")) (List.mem_of_getElem? (i := 1) rfl)
  obtain ⟨u2, eP2, rP2⟩ := He.valsB_ok xP (q := ("then", .glo "do_then")) (List.mem_of_getElem? (i := 2) rfl)
  obtain ⟨u3, eP3, rP3⟩ := He.valsB_ok xP (q := ("make", .glo "do_make")) (List.mem_of_getElem? (i := 3) rfl)
  obtain ⟨u4, eP4, rP4⟩ := He.valsB_ok xP (q := ("keep", .glo "do_keep")) (List.mem_of_getElem? (i := 4) rfl)
  obtain ⟨u5, eP5, rP5⟩ := He.valsB_ok xP (q := ("break", .glo "do_break")) (List.mem_of_getElem? (i := 5) rfl)
  obtain ⟨u6, eP6, rP6⟩ := He.valsB_ok xP (q := ("follow", .glo "do_follow")) (List.mem_of_getElem? (i := 6) rfl)
  rw [relV_ref rP0] at eP0
  rw [relV_ref rP1] at eP1
  rw [relV_ref rP2] at eP2
  rw [relV_ref rP3] at eP3
  rw [relV_ref rP4] at eP4
  rw [relV_ref rP5] at eP5
  rw [relV_ref rP6] at eP6
  have kc : ∀ (i : Nat) (x g : Str), kvC[i]? = some (x, .glo g) → KDct K w (He.ga K "CHECKS") x (.ref (He.ga K g)) := fun i x g e => by
    obtain ⟨u, eu, ru⟩ := He.valsB_ok (show He.valsB K (He.ga K "CHECKS") kvC = true from xC) (List.mem_of_getElem? e)
    exact ⟨es1, nn1, u, kd1.at_, kd1.lit, eu, ru⟩
  obtain ⟨fd_law, F_law⟩ := cd.def_ 50 (d := d_law) rfl
  have K_State : ClsF K (He.ga K "State") fState := ⟨He.cls_ok (cd.fact 58 (f := .cls "State") rfl), (List.forall_mem_cons.mpr ⟨He.noat_ok (cd.fact 94 (f := .noat "State" "setup") rfl), (List.forall_mem_cons.mpr ⟨He.noat_ok (cd.fact 95 (f := .noat "State" "book") rfl), (List.forall_mem_cons.mpr ⟨He.noat_ok (cd.fact 96 (f := .noat "State" "picks") rfl), (List.forall_mem_cons.mpr ⟨He.noat_ok (cd.fact 97 (f := .noat "State" "since") rfl), (List.forall_mem_cons.mpr ⟨He.noat_ok (cd.fact 98 (f := .noat "State" "queues") rfl), (List.forall_mem_cons.mpr ⟨He.noat_ok (cd.fact 99 (f := .noat "State" "clock") rfl), (List.forall_mem_cons.mpr ⟨He.noat_ok (cd.fact 100 (f := .noat "State" "numbers") rfl), (List.forall_mem_cons.mpr ⟨He.noat_ok (cd.fact 101 (f := .noat "State" "events") rfl), (List.forall_mem_cons.mpr ⟨He.noat_ok (cd.fact 102 (f := .noat "State" "shown") rfl), (List.forall_mem_cons.mpr ⟨He.noat_ok (cd.fact 103 (f := .noat "State" "micros") rfl), (List.forall_mem_cons.mpr ⟨He.noat_ok (cd.fact 104 (f := .noat "State" "timers") rfl), (List.forall_mem_cons.mpr ⟨He.noat_ok (cd.fact 105 (f := .noat "State" "idles") rfl), (List.forall_mem_cons.mpr ⟨He.noat_ok (cd.fact 106 (f := .noat "State" "soonest") rfl), (List.forall_mem_cons.mpr ⟨He.noat_ok (cd.fact 107 (f := .noat "State" "opened") rfl), (List.forall_mem_cons.mpr ⟨He.noat_ok (cd.fact 108 (f := .noat "State" "done") rfl), (List.forall_mem_cons.mpr ⟨He.noat_ok (cd.fact 109 (f := .noat "State" "flooded") rfl), (List.forall_mem_cons.mpr ⟨He.noat_ok (cd.fact 110 (f := .noat "State" "asking") rfl), (List.forall_mem_cons.mpr ⟨He.noat_ok (cd.fact 111 (f := .noat "State" "busy") rfl), (fun _ h => nomatch h)⟩)⟩)⟩)⟩)⟩)⟩)⟩)⟩)⟩)⟩)⟩)⟩)⟩)⟩)⟩)⟩)⟩)⟩)⟩
  have K_Book : ClsF K (He.ga K "Book") fBook := ⟨He.cls_ok (cd.fact 57 (f := .cls "Book") rfl), (List.forall_mem_cons.mpr ⟨He.noat_ok (cd.fact 83 (f := .noat "Book" "fates") rfl), (List.forall_mem_cons.mpr ⟨He.noat_ok (cd.fact 84 (f := .noat "Book" "named") rfl), (List.forall_mem_cons.mpr ⟨He.noat_ok (cd.fact 85 (f := .noat "Book" "takers") rfl), (List.forall_mem_cons.mpr ⟨He.noat_ok (cd.fact 86 (f := .noat "Book" "taken") rfl), (List.forall_mem_cons.mpr ⟨He.noat_ok (cd.fact 87 (f := .noat "Book" "untold") rfl), (List.forall_mem_cons.mpr ⟨He.noat_ok (cd.fact 88 (f := .noat "Book" "gathers") rfl), (List.forall_mem_cons.mpr ⟨He.noat_ok (cd.fact 89 (f := .noat "Book" "stories") rfl), (List.forall_mem_cons.mpr ⟨He.noat_ok (cd.fact 90 (f := .noat "Book" "waits") rfl), (List.forall_mem_cons.mpr ⟨He.noat_ok (cd.fact 91 (f := .noat "Book" "ahead") rfl), (List.forall_mem_cons.mpr ⟨He.noat_ok (cd.fact 92 (f := .noat "Book" "shared") rfl), (List.forall_mem_cons.mpr ⟨He.noat_ok (cd.fact 93 (f := .noat "Book" "text") rfl), (fun _ h => nomatch h)⟩)⟩)⟩)⟩)⟩)⟩)⟩)⟩)⟩)⟩)⟩)⟩
  have K_Work : ClsF K (He.ga K "Work") fWork := ⟨He.cls_ok (cd.fact 59 (f := .cls "Work") rfl), (List.forall_mem_cons.mpr ⟨He.noat_ok (cd.fact 112 (f := .noat "Work" "number") rfl), (List.forall_mem_cons.mpr ⟨He.noat_ok (cd.fact 113 (f := .noat "Work" "name") rfl), (List.forall_mem_cons.mpr ⟨He.noat_ok (cd.fact 114 (f := .noat "Work" "script") rfl), (List.forall_mem_cons.mpr ⟨He.noat_ok (cd.fact 115 (f := .noat "Work" "told") rfl), (List.forall_mem_cons.mpr ⟨He.noat_ok (cd.fact 116 (f := .noat "Work" "pledge") rfl), (List.forall_mem_cons.mpr ⟨He.noat_ok (cd.fact 117 (f := .noat "Work" "around") rfl), (List.forall_mem_cons.mpr ⟨He.noat_ok (cd.fact 118 (f := .noat "Work" "text") rfl), (fun _ h => nomatch h)⟩)⟩)⟩)⟩)⟩)⟩)⟩)⟩
  have K_Setup : ClsF K (He.ga K "Setup") fSetup := ⟨He.cls_ok (cd.fact 56 (f := .cls "Setup") rfl), (List.forall_mem_cons.mpr ⟨He.noat_ok (cd.fact 77 (f := .noat "Setup" "patience") rfl), (List.forall_mem_cons.mpr ⟨He.noat_ok (cd.fact 78 (f := .noat "Setup" "flood") rfl), (List.forall_mem_cons.mpr ⟨He.noat_ok (cd.fact 79 (f := .noat "Setup" "deep") rfl), (List.forall_mem_cons.mpr ⟨He.noat_ok (cd.fact 80 (f := .noat "Setup" "calls") rfl), (List.forall_mem_cons.mpr ⟨He.noat_ok (cd.fact 81 (f := .noat "Setup" "patient") rfl), (List.forall_mem_cons.mpr ⟨He.noat_ok (cd.fact 82 (f := .noat "Setup" "text") rfl), (fun _ h => nomatch h)⟩)⟩)⟩)⟩)⟩)⟩)⟩
  have K_Loop : ClsF K (He.ga K "Loop") ["state"] := ⟨He.cls_ok (cd.fact 60 (f := .cls "Loop") rfl), (List.forall_mem_cons.mpr ⟨He.noat_ok (cd.fact 119 (f := .noat "Loop" "state") rfl), (fun _ h => nomatch h)⟩)⟩
  obtain ⟨fd_is_word, F_is_word⟩ := cd.def_ 1 (d := d_is_word) rfl
  have n_isinstance := He.free_ok X G (cd.fact 133 (f := .free "isinstance") rfl)
  have n_str := He.free_ok X G (cd.fact 138 (f := .free "str") rfl)
  have n_len := He.free_ok X G (cd.fact 134 (f := .free "len") rfl)
  obtain ⟨t_MOST_LETTERS, i_MOST_LETTERS⟩ := He.int_ok X G (cd.fact 120 (f := .int "MOST_LETTERS" 8) rfl)
  obtain ⟨fd_is_between, F_is_between⟩ := cd.def_ 0 (d := d_is_between) rfl
  have n_int := He.free_ok X G (cd.fact 135 (f := .free "int") rfl)
  have n_bool := He.free_ok X G (cd.fact 136 (f := .free "bool") rfl)
  obtain ⟨fd_is_worth_within, F_is_worth_within⟩ := cd.def_ 3 (d := d_is_worth_within) rfl
  have B_is_worth_within : Binds K fd_is_worth_within ["thing", "levels"] [] := F_is_worth_within.bindsN fun _ _ _ _ _ _ us hl => match us, hl with | [_, _], _ => rfl
  have B_is_word : Binds K fd_is_word ["thing"] [] := F_is_word.bindsN fun _ _ _ _ _ _ us hl => match us, hl with | [_], _ => rfl
  have B_is_between : Binds K fd_is_between ["thing", "least", "most"] [] := F_is_between.bindsN fun _ _ _ _ _ _ us hl => match us, hl with | [_, _, _], _ => rfl
  have n_tuple := He.free_ok X G (cd.fact 137 (f := .free "tuple") rfl)
  have n_all := He.free_ok X G (cd.fact 146 (f := .free "all") rfl)
  obtain ⟨t_FARTHEST, i_FARTHEST⟩ := He.int_ok X G (cd.fact 121 (f := .int "FARTHEST" 1000000000) rfl)
  obtain ⟨t_MOST_WORTHS, i_MOST_WORTHS⟩ := He.int_ok X G (cd.fact 122 (f := .int "MOST_WORTHS" 20) rfl)
  obtain ⟨fd_is_worth, F_is_worth⟩ := cd.def_ 2 (d := d_is_worth) rfl
  obtain ⟨t_WORTH_LEVELS, i_WORTH_LEVELS⟩ := He.int_ok X G (cd.fact 123 (f := .int "WORTH_LEVELS" 4) rfl)
  obtain ⟨fd_is_names, F_is_names⟩ := cd.def_ 4 (d := d_is_names) rfl
  obtain ⟨t_MOST_NAMES, i_MOST_NAMES⟩ := He.int_ok X G (cd.fact 126 (f := .int "MOST_NAMES" 8) rfl)
  obtain ⟨fd_is_rank, F_is_rank⟩ := cd.def_ 5 (d := d_is_rank) rfl
  obtain ⟨t_LAST_RANK, i_LAST_RANK⟩ := He.int_ok X G (cd.fact 124 (f := .int "LAST_RANK" 5) rfl)
  obtain ⟨fd_is_count, F_is_count⟩ := cd.def_ 6 (d := d_is_count) rfl
  obtain ⟨t_MOST_COUNT, i_MOST_COUNT⟩ := He.int_ok X G (cd.fact 125 (f := .int "MOST_COUNT" 1000) rfl)
  obtain ⟨fd_is_gap, F_is_gap⟩ := cd.def_ 7 (d := d_is_gap) rfl
  obtain ⟨fd_is_due, F_is_due⟩ := cd.def_ 8 (d := d_is_due) rfl
  have B_is_count : Binds K fd_is_count ["thing"] [] := F_is_count.bindsN fun _ _ _ _ _ _ us hl => match us, hl with | [_], _ => rfl
  have B_is_rank : Binds K fd_is_rank ["thing"] [] := F_is_rank.bindsN fun _ _ _ _ _ _ us hl => match us, hl with | [_], _ => rfl
  have B_is_gap : Binds K fd_is_gap ["thing"] [] := F_is_gap.bindsN fun _ _ _ _ _ _ us hl => match us, hl with | [_], _ => rfl
  have B_is_due : Binds K fd_is_due ["thing"] [] := F_is_due.bindsN fun _ _ _ _ _ _ us hl => match us, hl with | [_], _ => rfl
  have B_is_worth : Binds K fd_is_worth ["thing"] [] := F_is_worth.bindsN fun _ _ _ _ _ _ us hl => match us, hl with | [_], _ => rfl
  have B_is_names : Binds K fd_is_names ["thing"] [] := F_is_names.bindsN fun _ _ _ _ _ _ us hl => match us, hl with | [_], _ => rfl
  obtain ⟨fd_fits, F_fits⟩ := cd.def_ 12 (d := d_fits) rfl
  obtain ⟨fd_room_behind_parts, F_room_behind_parts⟩ := cd.def_ 11 (d := d_room_behind_parts) rfl
  have B_room_behind_parts : Binds K fd_room_behind_parts ["deed", "levels", "room"] [] := F_room_behind_parts.bindsN fun _ _ _ _ _ _ us hl => match us, hl with | [_, _, _], _ => rfl
  obtain ⟨fd_room_behind, F_room_behind⟩ := cd.def_ 10 (d := d_room_behind) rfl
  have B_room_behind : Binds K fd_room_behind ["thing", "levels", "room"] [] := F_room_behind.bindsN fun _ _ _ _ _ _ us hl => match us, hl with | [_, _, _], _ => rfl
  have B_fits : Binds K fd_fits ["kind", "part"] [] := F_fits.bindsN fun _ _ _ _ _ _ us hl => match us, hl with | [_, _], _ => rfl
  obtain ⟨fd_is_script, F_is_script⟩ := cd.def_ 9 (d := d_is_script) rfl
  obtain ⟨t_SCRIPT_LEVELS, i_SCRIPT_LEVELS⟩ := He.int_ok X G (cd.fact 128 (f := .int "SCRIPT_LEVELS" 5) rfl)
  obtain ⟨t_MOST_DEEDS, i_MOST_DEEDS⟩ := He.int_ok X G (cd.fact 127 (f := .int "MOST_DEEDS" 200) rfl)
  obtain ⟨fd__law_pen, F__law_pen⟩ := cd.def_ 47 (d := d__law_pen) rfl
  have n_list := He.free_ok X G (cd.fact 140 (f := .free "list") rfl)
  obtain ⟨fd__law_draw, F__law_draw⟩ := cd.def_ 48 (d := d__law_draw) rfl
  obtain ⟨fd_Work_init, F_Work_init⟩ := cd.def_ 54 (d := d_Work_init) rfl
  obtain ⟨fd_put_work, F_put_work⟩ := cd.def_ 17 (d := d_put_work) rfl
  obtain ⟨fd_own_book, F_own_book⟩ := cd.def_ 16 (d := d_own_book) rfl
  obtain ⟨fd_make_promise, F_make_promise⟩ := cd.def_ 18 (d := d_make_promise) rfl
  obtain ⟨fd_takers_behind, F_takers_behind⟩ := cd.def_ 20 (d := d_takers_behind) rfl
  obtain ⟨fd_micro_of, F_micro_of⟩ := cd.def_ 21 (d := d_micro_of) rfl
  have B_Work_init : Binds K fd_Work_init nWork [] := F_Work_init.bindsN fun _ _ _ _ _ _ us hl => match us, hl with | [_, _, _, _, _, _, _], _ => rfl
  have M_Work : Mkc K mg "Work" (He.ga K "Work") _ fd_Work_init nWork := ⟨He.glo_ok X G (cd.fact 54 (f := .glo "Work") rfl), He.mkr_ok (cd.fact 64 (f := .mkr "Work") rfl), B_Work_init⟩
  obtain ⟨fd_settle, F_settle⟩ := cd.def_ 19 (d := d_settle) rfl
  have B_own_book : Binds K fd_own_book ["state"] [] := F_own_book.bindsN fun _ _ _ _ _ _ us hl => match us, hl with | [_], _ => rfl
  have C_own_book : Cal K mg "own_book" _ fd_own_book ["state"] := ⟨He.glo_ok X G (cd.fact 16 (f := .glo "own_book") rfl), F_own_book.kp, B_own_book⟩
  have B_takers_behind : Binds K fd_takers_behind ["state", "book", "number", "fate"] [] := F_takers_behind.bindsN fun _ _ _ _ _ _ us hl => match us, hl with | [_, _, _, _], _ => rfl
  have C_takers_behind : Cal K mg "takers_behind" _ fd_takers_behind ["state", "book", "number", "fate"] := ⟨He.glo_ok X G (cd.fact 20 (f := .glo "takers_behind") rfl), F_takers_behind.kp, B_takers_behind⟩
  have B_micro_of : Binds K fd_micro_of ["book", "taker", "fate"] [] := F_micro_of.bindsN fun _ _ _ _ _ _ us hl => match us, hl with | [_, _, _], _ => rfl
  have C_micro_of : Cal K mg "micro_of" _ fd_micro_of ["book", "taker", "fate"] := ⟨He.glo_ok X G (cd.fact 21 (f := .glo "micro_of") rfl), F_micro_of.kp, B_micro_of⟩
  obtain ⟨fd_end_of_row, F_end_of_row⟩ := cd.def_ 26 (d := d_end_of_row) rfl
  obtain ⟨fd_take, F_take⟩ := cd.def_ 23 (d := d_take) rfl
  obtain ⟨fd_put_taker, F_put_taker⟩ := cd.def_ 22 (d := d_put_taker) rfl
  obtain ⟨fd_follow, F_follow⟩ := cd.def_ 25 (d := d_follow) rfl
  have B_end_of_row : Binds K fd_end_of_row ["book", "number"] [] := F_end_of_row.bindsN fun _ _ _ _ _ _ us hl => match us, hl with | [_, _], _ => rfl
  have C_end_of_row : Cal K mg "end_of_row" _ fd_end_of_row ["book", "number"] := ⟨He.glo_ok X G (cd.fact 26 (f := .glo "end_of_row") rfl), F_end_of_row.kp, B_end_of_row⟩
  have B_settle : Binds K fd_settle ["state", "number", "fate"] [] := F_settle.bindsN fun _ _ _ _ _ _ us hl => match us, hl with | [_, _, _], _ => rfl
  have C_settle : Cal K mg "settle" _ fd_settle ["state", "number", "fate"] := ⟨He.glo_ok X G (cd.fact 19 (f := .glo "settle") rfl), F_settle.kp, B_settle⟩
  have B_take : Binds K fd_take ["state", "book", "number"] [] := F_take.bindsN fun _ _ _ _ _ _ us hl => match us, hl with | [_, _, _], _ => rfl
  have C_take : Cal K mg "take" _ fd_take ["state", "book", "number"] := ⟨He.glo_ok X G (cd.fact 23 (f := .glo "take") rfl), F_take.kp, B_take⟩
  have B_put_taker : Binds K fd_put_taker ["state", "book", "number", "taker"] [] := F_put_taker.bindsN fun _ _ _ _ _ _ us hl => match us, hl with | [_, _, _, _], _ => rfl
  have C_put_taker : Cal K mg "put_taker" _ fd_put_taker ["state", "book", "number", "taker"] := ⟨He.glo_ok X G (cd.fact 22 (f := .glo "put_taker") rfl), F_put_taker.kp, B_put_taker⟩
  obtain ⟨fd_new_number, F_new_number⟩ := cd.def_ 15 (d := d_new_number) rfl
  obtain ⟨fd_do_say, F_do_say⟩ := cd.def_ 28 (d := d_do_say) rfl
  obtain ⟨fd_do_echo, F_do_echo⟩ := cd.def_ 29 (d := d_do_echo) rfl
  obtain ⟨fd_do_then, F_do_then⟩ := cd.def_ 35 (d := d_do_then) rfl
  have B_new_number : Binds K fd_new_number ["state"] [] := F_new_number.bindsN fun _ _ _ _ _ _ us hl => match us, hl with | [_], _ => rfl
  have C_new_number : Cal K mg "new_number" _ fd_new_number ["state"] := ⟨He.glo_ok X G (cd.fact 15 (f := .glo "new_number") rfl), F_new_number.kp, B_new_number⟩
  have B_make_promise : Binds K fd_make_promise ["book", "name"] [] := F_make_promise.bindsN fun _ _ _ _ _ _ us hl => match us, hl with | [_, _], _ => rfl
  have C_make_promise : Cal K mg "make_promise" _ fd_make_promise ["book", "name"] := ⟨He.glo_ok X G (cd.fact 18 (f := .glo "make_promise") rfl), F_make_promise.kp, B_make_promise⟩
  obtain ⟨fd_do_make, F_do_make⟩ := cd.def_ 30 (d := d_do_make) rfl
  obtain ⟨fd_do_keep, F_do_keep⟩ := cd.def_ 31 (d := d_do_keep) rfl
  obtain ⟨fd_do_break, F_do_break⟩ := cd.def_ 33 (d := d_do_break) rfl
  obtain ⟨fd_do_follow, F_do_follow⟩ := cd.def_ 34 (d := d_do_follow) rfl
  have B_follow : Binds K fd_follow ["state", "number", "other"] [] := F_follow.bindsN fun _ _ _ _ _ _ us hl => match us, hl with | [_, _, _], _ => rfl
  have C_follow : Cal K mg "follow" _ fd_follow ["state", "number", "other"] := ⟨He.glo_ok X G (cd.fact 25 (f := .glo "follow") rfl), F_follow.kp, B_follow⟩
  have B_do_say : Binds K fd_do_say pDo [] := F_do_say.bindsN fun _ _ _ _ _ _ us hl => match us, hl with | [_, _, _], _ => rfl
  have B_do_echo : Binds K fd_do_echo pDo [] := F_do_echo.bindsN fun _ _ _ _ _ _ us hl => match us, hl with | [_, _, _], _ => rfl
  have B_do_make : Binds K fd_do_make pDo [] := F_do_make.bindsN fun _ _ _ _ _ _ us hl => match us, hl with | [_, _, _], _ => rfl
  have B_do_keep : Binds K fd_do_keep pDo [] := F_do_keep.bindsN fun _ _ _ _ _ _ us hl => match us, hl with | [_, _, _], _ => rfl
  have B_do_break : Binds K fd_do_break pDo [] := F_do_break.bindsN fun _ _ _ _ _ _ us hl => match us, hl with | [_, _, _], _ => rfl
  have B_do_follow : Binds K fd_do_follow pDo [] := F_do_follow.bindsN fun _ _ _ _ _ _ us hl => match us, hl with | [_, _, _], _ => rfl
  have B_do_then : Binds K fd_do_then pDo [] := F_do_then.bindsN fun _ _ _ _ _ _ us hl => match us, hl with | [_, _, _], _ => rfl
  obtain ⟨fd_end, F_end⟩ := cd.def_ 42 (d := d_end) rfl
  obtain ⟨fd_begin_fresh, F_begin_fresh⟩ := cd.def_ 40 (d := d_begin_fresh) rfl
  have B_end : Binds K fd_end pEndw [] := F_end.bindsN fun _ _ _ _ _ _ us hl => match us, hl with | [_, _, _, _], _ => rfl
  have C_end : Cal K mg "end" _ fd_end pEndw := ⟨He.glo_ok X G (cd.fact 42 (f := .glo "end") rfl), F_end.kp, B_end⟩
  obtain ⟨fd_begin, F_begin⟩ := cd.def_ 41 (d := d_begin) rfl
  have B_begin_fresh : Binds K fd_begin_fresh ["state", "work"] [] := F_begin_fresh.bindsN fun _ _ _ _ _ _ us hl => match us, hl with | [_, _], _ => rfl
  have C_begin_fresh : Cal K mg "begin_fresh" _ fd_begin_fresh ["state", "work"] := ⟨He.glo_ok X G (cd.fact 40 (f := .glo "begin_fresh") rfl), F_begin_fresh.kp, B_begin_fresh⟩
  obtain ⟨fd_do_micros, F_do_micros⟩ := cd.def_ 46 (d := d_do_micros) rfl
  have B_begin : Binds K fd_begin ["state", "work", "fate"] [] := F_begin.bindsN fun _ _ _ _ _ _ us hl => match us, hl with | [_, _, _], _ => rfl
  have C_begin : Cal K mg "begin" _ fd_begin ["state", "work", "fate"] := ⟨He.glo_ok X G (cd.fact 41 (f := .glo "begin") rfl), F_begin.kp, B_begin⟩
  obtain ⟨fd_gather_fate, F_gather_fate⟩ := cd.def_ 27 (d := d_gather_fate) rfl
  have B_gather_fate : Binds K fd_gather_fate ["state", "pledge", "place", "fate"] [] := F_gather_fate.bindsN fun _ _ _ _ _ _ us hl => match us, hl with | [_, _, _, _], _ => rfl
  have C_gather_fate : Cal K mg "gather_fate" _ fd_gather_fate ["state", "pledge", "place", "fate"] := ⟨He.glo_ok X G (cd.fact 27 (f := .glo "gather_fate") rfl), F_gather_fate.kp, B_gather_fate⟩
  obtain ⟨fd_begin_task, F_begin_task⟩ := cd.def_ 38 (d := d_begin_task) rfl
  obtain ⟨fd_overdue_rank, F_overdue_rank⟩ := cd.def_ 39 (d := d_overdue_rank) rfl
  have B_overdue_rank : Binds K fd_overdue_rank ["state"] [] := F_overdue_rank.bindsN fun _ _ _ _ _ _ us hl => match us, hl with | [_], _ => rfl
  have C_overdue_rank : Cal K mg "overdue_rank" _ fd_overdue_rank ["state"] := ⟨He.glo_ok X G (cd.fact 39 (f := .glo "overdue_rank") rfl), F_overdue_rank.kp, B_overdue_rank⟩
  obtain ⟨fd_begin_without_works, F_begin_without_works⟩ := cd.def_ 37 (d := d_begin_without_works) rfl
  obtain ⟨fd_tell_unhandled, F_tell_unhandled⟩ := cd.def_ 24 (d := d_tell_unhandled) rfl
  obtain ⟨fd_settle_down, F_settle_down⟩ := cd.def_ 44 (d := d_settle_down) rfl
  have B_tell_unhandled : Binds K fd_tell_unhandled ["state"] [] := F_tell_unhandled.bindsN fun _ _ _ _ _ _ us hl => match us, hl with | [_], _ => rfl
  have C_tell_unhandled : Cal K mg "tell_unhandled" _ fd_tell_unhandled ["state"] := ⟨He.glo_ok X G (cd.fact 24 (f := .glo "tell_unhandled") rfl), F_tell_unhandled.kp, B_tell_unhandled⟩
  have B_do_micros : Binds K fd_do_micros ["state"] [] := F_do_micros.bindsN fun _ _ _ _ _ _ us hl => match us, hl with | [_], _ => rfl
  have C_do_micros : Cal K mg "do_micros" _ fd_do_micros ["state"] := ⟨He.glo_ok X G (cd.fact 46 (f := .glo "do_micros") rfl), F_do_micros.kp, B_do_micros⟩
  obtain ⟨fd_end_run, F_end_run⟩ := cd.def_ 45 (d := d_end_run) rfl
  have B_end_run : Binds K fd_end_run ["state"] [] := F_end_run.bindsN fun _ _ _ _ _ _ us hl => match us, hl with | [_], _ => rfl
  have C_end_run : Cal K mg "end_run" _ fd_end_run ["state"] := ⟨He.glo_ok X G (cd.fact 45 (f := .glo "end_run") rfl), F_end_run.kp, B_end_run⟩
  obtain ⟨fd_take_turn, F_take_turn⟩ := cd.def_ 36 (d := d_take_turn) rfl
  have B_begin_task : Binds K fd_begin_task ["state"] [] := F_begin_task.bindsN fun _ _ _ _ _ _ us hl => match us, hl with | [_], _ => rfl
  have C_begin_task : Cal K mg "begin_task" _ fd_begin_task ["state"] := ⟨He.glo_ok X G (cd.fact 38 (f := .glo "begin_task") rfl), F_begin_task.kp, B_begin_task⟩
  have B_begin_without_works : Binds K fd_begin_without_works ["state"] [] := F_begin_without_works.bindsN fun _ _ _ _ _ _ us hl => match us, hl with | [_], _ => rfl
  have C_begin_without_works : Cal K mg "begin_without_works" _ fd_begin_without_works ["state"] := ⟨He.glo_ok X G (cd.fact 37 (f := .glo "begin_without_works") rfl), F_begin_without_works.kp, B_begin_without_works⟩
  have B_settle_down : Binds K fd_settle_down ["state"] [] := F_settle_down.bindsN fun _ _ _ _ _ _ us hl => match us, hl with | [_], _ => rfl
  have C_settle_down : Cal K mg "settle_down" _ fd_settle_down ["state"] := ⟨He.glo_ok X G (cd.fact 44 (f := .glo "settle_down") rfl), F_settle_down.kp, B_settle_down⟩
  have n_any := He.free_ok X G (cd.fact 145 (f := .free "any") rfl)
  have B_take_turn : Binds K fd_take_turn ["state"] [] := F_take_turn.bindsN fun _ _ _ _ _ _ us hl => match us, hl with | [_], _ => rfl
  have C_take_turn : Cal K mg "take_turn" _ fd_take_turn ["state"] := ⟨He.glo_ok X G (cd.fact 36 (f := .glo "take_turn") rfl), F_take_turn.kp, B_take_turn⟩
  obtain ⟨fd_Loop_journal, F_Loop_journal⟩ := cd.def_ 59 (d := d_Loop_journal) rfl
  obtain ⟨fd_State_init, F_State_init⟩ := cd.def_ 53 (d := d_State_init) rfl
  obtain ⟨fd_Book_init, F_Book_init⟩ := cd.def_ 52 (d := d_Book_init) rfl
  obtain ⟨fd_Setup_init, F_Setup_init⟩ := cd.def_ 51 (d := d_Setup_init) rfl
  have n_enumerate := He.free_ok X G (cd.fact 147 (f := .free "enumerate") rfl)
  obtain ⟨fd_first_state, F_first_state⟩ := cd.def_ 13 (d := d_first_state) rfl
  have B_State_init : Binds K fd_State_init nState [] := F_State_init.bindsN fun _ _ _ _ _ _ us hl => match us, hl with | [_, _, _, _, _, _, _, _], _ => rfl
  have M_State : Mkc K mg "State" (He.ga K "State") _ fd_State_init nState := ⟨He.glo_ok X G (cd.fact 53 (f := .glo "State") rfl), He.mkr_ok (cd.fact 63 (f := .mkr "State") rfl), B_State_init⟩
  have B_Book_init : Binds K fd_Book_init ["self"] [] := F_Book_init.bindsN fun _ _ _ _ _ _ us hl => match us, hl with | [_], _ => rfl
  have M_Book : Mkc K mg "Book" (He.ga K "Book") _ fd_Book_init ["self"] := ⟨He.glo_ok X G (cd.fact 52 (f := .glo "Book") rfl), He.mkr_ok (cd.fact 62 (f := .mkr "Book") rfl), B_Book_init⟩
  have n_range := He.free_ok X G (cd.fact 139 (f := .free "range") rfl)
  have B_Setup_init : Binds K fd_Setup_init ["self", "patience", "flood", "deep", "calls"] [] := F_Setup_init.bindsN fun _ _ _ _ _ _ us hl => match us, hl with | [_, _, _, _, _], _ => rfl
  have M_Setup : Mkc K mg "Setup" (He.ga K "Setup") _ fd_Setup_init ["self", "patience", "flood", "deep", "calls"] := ⟨He.glo_ok X G (cd.fact 51 (f := .glo "Setup") rfl), He.mkr_ok (cd.fact 61 (f := .mkr "Setup") rfl), B_Setup_init⟩
  have B_first_state : Binds K fd_first_state ["setup"] [] := F_first_state.bindsN fun _ _ _ _ _ _ us hl => match us, hl with | [_], _ => rfl
  have C_first_state : Cal K mg "first_state" _ fd_first_state ["setup"] := ⟨He.glo_ok X G (cd.fact 13 (f := .glo "first_state") rfl), F_first_state.kp, B_first_state⟩
  have n_dict := He.free_ok X G (cd.fact 141 (f := .free "dict") rfl)
  obtain ⟨fd_NoScript_init, F_NoScript_init⟩ := cd.def_ 67 (d := d_NoScript_init) rfl
  have n_ValueError := He.free_ok X G (cd.fact 152 (f := .free "ValueError") rfl)
  have B_NoScript_init : Binds K fd_NoScript_init ["self", "thing"] [] := F_NoScript_init.bindsN fun _ _ _ _ _ _ us hl => match us, hl with | [_, _], _ => rfl
  obtain ⟨fd_NoRank_init, F_NoRank_init⟩ := cd.def_ 68 (d := d_NoRank_init) rfl
  have n_IndexError := He.free_ok X G (cd.fact 150 (f := .free "IndexError") rfl)
  have B_NoRank_init : Binds K fd_NoRank_init ["self", "rank"] [] := F_NoRank_init.bindsN fun _ _ _ _ _ _ us hl => match us, hl with | [_, _], _ => rfl
  have B_is_script : Binds K fd_is_script ["thing"] [] := F_is_script.bindsN fun _ _ _ _ _ _ us hl => match us, hl with | [_], _ => rfl
  have C_is_script : Cal K mg "is_script" _ fd_is_script ["thing"] := ⟨He.glo_ok X G (cd.fact 9 (f := .glo "is_script") rfl), F_is_script.kp, B_is_script⟩
  have C_is_between : Cal K mg "is_between" _ fd_is_between ["thing", "least", "most"] := ⟨He.glo_ok X G (cd.fact 0 (f := .glo "is_between") rfl), F_is_between.kp, B_is_between⟩
  have B_put_work : Binds K fd_put_work ["state", "rank", "work"] [] := F_put_work.bindsN fun _ _ _ _ _ _ us hl => match us, hl with | [_, _, _], _ => rfl
  have C_put_work : Cal K mg "put_work" _ fd_put_work ["state", "rank", "work"] := ⟨He.glo_ok X G (cd.fact 17 (f := .glo "put_work") rfl), F_put_work.kp, B_put_work⟩
  obtain ⟨fd__law_taken, F__law_taken⟩ := cd.def_ 49 (d := d__law_taken) rfl
  have B__law_draw : Binds K fd__law_draw ["_law_held", "_law_many"] [] := F__law_draw.bindsN fun _ _ _ _ _ _ us hl => match us, hl with | [_, _], _ => rfl
  have C__law_draw : Cal K mg "_law_draw" _ fd__law_draw ["_law_held", "_law_many"] := ⟨He.glo_ok X G (cd.fact 48 (f := .glo "_law_draw") rfl), F__law_draw.kp, B__law_draw⟩
  have B__law_pen : Binds K fd__law_pen ["_law_script"] [] := F__law_pen.bindsN fun _ _ _ _ _ _ us hl => match us, hl with | [_], _ => rfl
  have C__law_pen : Cal K mg "_law_pen" _ fd__law_pen ["_law_script"] := ⟨He.glo_ok X G (cd.fact 47 (f := .glo "_law_pen") rfl), F__law_pen.kp, B__law_pen⟩
  have B__law_taken : Binds K fd__law_taken ["_law_held", "_law_word"] [] := F__law_taken.bindsN fun _ _ _ _ _ _ us hl => match us, hl with | [_, _], _ => rfl
  have C__law_taken : Cal K mg "_law_taken" _ fd__law_taken ["_law_held", "_law_word"] := ⟨He.glo_ok X G (cd.fact 49 (f := .glo "_law_taken") rfl), F__law_taken.kp, B__law_taken⟩
  have B_Loop_journal : Binds K fd_Loop_journal ["self"] [] := F_Loop_journal.bindsN fun _ _ _ _ _ _ us hl => match us, hl with | [_], _ => rfl
  have n_min := He.free_ok X G (cd.fact 143 (f := .free "min") rfl)
  obtain ⟨fdL, F_Loop_init⟩ := cd.def_ 55 (d := d_Loop_init) rfl
  obtain ⟨fdPo, F_Loop_post⟩ := cd.def_ 56 (d := d_Loop_post) rfl
  obtain ⟨fdT, F_Loop_turns⟩ := cd.def_ 58 (d := d_Loop_turns) rfl
  obtain ⟨esD, nD, D⟩ := deedsX (He.glo_ok X G (cd.fact 153 (f := .glo "DEEDS") rfl)) hd0 rfl xD
  obtain ⟨mvL, BL⟩ := FunD.kbinds0 (ps := pLoop) F_Loop_init 1 ["ranks"] [("patience", .non), ("flood", .int 100), ("deep", .int 8), ("calls", .non)] (fun us mv ws => us ++ (ws ++ mv)) (fun z => by cases z)
    (List.forall_mem_cons.mpr ⟨.tail _ (.head _), List.forall_mem_cons.mpr ⟨.tail _ (.tail _ (.head _)), List.forall_mem_cons.mpr ⟨.tail _ (.tail _ (.tail _ (.head _))), List.forall_mem_cons.mpr ⟨.tail _ (.tail _ (.tail _ (.tail _ (.head _)))), fun _ h => nomatch h⟩⟩⟩⟩) (fun r1 r2 r3 => r1.append (r3.append r2))
    (fun D doc pm an cdv ct us mv ws l1 l2 l3 => match us, mv, ws, l1, l2, l3 with | [_], [_, _, _, _], [_], _, _, _ => ⟨_, _, _, _, _, _, rfl, rfl, _, _, _, _, _, _, rfl, rfl, _, _, _, _, _, _, rfl, rfl, _, _, _, _, _, _, rfl, rfl, rfl⟩)
  obtain ⟨mvP1, BP1⟩ := FunD.kbinds0 (ps := pPost) F_Loop_post 2 [] [("rank", .int 0), ("name", .str "work")] (fun us mv ws => us ++ mv) (fun z => by cases z)
    (List.forall_mem_cons.mpr ⟨.head _, List.forall_mem_cons.mpr ⟨.tail _ (.head _), fun _ h => nomatch h⟩⟩) (fun r1 r2 r3 => r1.append r2)
    (fun D doc pm an cdv ct us mv ws l1 l2 l3 => match us, mv, ws, l1, l2, l3 with | [_, _], [_, _], [], _, _, _ => ⟨_, _, _, _, _, _, rfl, rfl, _, _, _, _, _, _, rfl, rfl, rfl⟩)
  obtain ⟨ds3, vd3, BT3⟩ := FunD.binds1 (ps := ["self", "most"]) F_Loop_turns 1 0 (fun z => by cases z) rfl (fun T kV doc pm an cdv ct us its l1 l2 => match us, its, l1, l2 with | [_], [_], _, _ => ⟨_, rfl, rfl⟩)
  have e := hfa.symm.trans (He.glo_ok X G (cd.fact 50 (f := .glo "law") rfl))
  cases e
  have b := FunD.bindsA (ps := ["_law_script"]) F_law fun _ _ _ _ _ _ us hl => match us, hl with | [_], _ => rfl
  refine ⟨fd_law, fun s v => b s [v] rfl, fun base _ _ => ?_⟩
  let c : CC := ⟨He.ga K "State", He.ga K "Setup", He.ga K "Book", He.ga K "Work", He.ga K "State", He.ga K "State", He.ga K "Loop"⟩
  have XM : MC K c := ⟨K_State, K_Book, K_Work, K_Setup, ⟨ne_of_b n1, ne_of_b n2, ne_of_b n3, ne_of_b n4, ne_of_b n1, ne_of_b n2⟩⟩
  have Y : LC K c := ⟨K_Loop, ne_of_b n5, ne_of_b n6⟩
  have Gisw := ok_isword (P := P) (w := w) (pB := base) (fun_of (st := sIsWord) F_is_word) n_isinstance n_str n_len i_MOST_LETTERS
  have Gbtw := ok_between (P := P) (w := w) (pB := base) (fun_of (st := sBtw) F_is_between) n_isinstance n_int n_bool
  have Gwth := ok_within (fun_of (st := sWth) F_is_worth_within) (He.glo_ok X G (cd.fact 3 (f := .glo "is_worth_within") rfl)) B_is_worth_within Gisw (He.glo_ok X G (cd.fact 1 (f := .glo "is_word") rfl)) F_is_word.kp B_is_word Gbtw (He.glo_ok X G (cd.fact 0 (f := .glo "is_between") rfl)) F_is_between.kp B_is_between n_isinstance n_tuple n_len n_all i_FARTHEST i_MOST_WORTHS
  have Gisv := ok_isworth (fun_of (st := sIsWorth) F_is_worth) (Gwth 4) (He.glo_ok X G (cd.fact 3 (f := .glo "is_worth_within") rfl)) F_is_worth_within.kp B_is_worth_within i_WORTH_LEVELS
  have Gnam := ok_names (fun_of (st := sNames) F_is_names) Gisw (He.glo_ok X G (cd.fact 1 (f := .glo "is_word") rfl)) F_is_word.kp B_is_word n_isinstance n_tuple n_len n_all i_MOST_NAMES
  have Grnk := ok_rank (fun_of (st := sRank) F_is_rank) Gbtw (He.glo_ok X G (cd.fact 0 (f := .glo "is_between") rfl)) F_is_between.kp B_is_between i_LAST_RANK
  have Gcou := ok_count (fun_of (st := sCount) F_is_count) Gbtw (He.glo_ok X G (cd.fact 0 (f := .glo "is_between") rfl)) F_is_between.kp B_is_between i_MOST_COUNT
  have Ggap := ok_gap (fun_of (st := sGap) F_is_gap) Gbtw (He.glo_ok X G (cd.fact 0 (f := .glo "is_between") rfl)) F_is_between.kp B_is_between i_MOST_COUNT
  have Gdue := ok_due (fun_of (st := sDue) F_is_due) Gcou (He.glo_ok X G (cd.fact 6 (f := .glo "is_count") rfl)) F_is_count.kp B_is_count
  have C : Checks P w K mg base (He.ga K "CHECKS") := ⟨(He.glo_ok X G (cd.fact 154 (f := .glo "CHECKS") rfl)), fun k hk => by
    cases k with
    | w => exact ⟨_, kc 0 "word" "is_word" rfl, ⟨_, _, Gisw.mono (by decide), F_is_word.kp, B_is_word⟩⟩
    | k => exact ⟨_, kc 1 "count" "is_count" rfl, ⟨_, _, Gcou.mono (by decide), F_is_count.kp, B_is_count⟩⟩
    | r => exact ⟨_, kc 2 "rank" "is_rank" rfl, ⟨_, _, Grnk.mono (by decide), F_is_rank.kp, B_is_rank⟩⟩
    | e => exact ⟨_, kc 3 "gap" "is_gap" rfl, ⟨_, _, Ggap.mono (by decide), F_is_gap.kp, B_is_gap⟩⟩
    | i => exact ⟨_, kc 4 "due" "is_due" rfl, ⟨_, _, Gdue.mono (by decide), F_is_due.kp, B_is_due⟩⟩
    | v => exact ⟨_, kc 5 "worth" "is_worth" rfl, ⟨_, _, Gisv.mono (by decide), F_is_worth.kp, B_is_worth⟩⟩
    | n => exact ⟨_, kc 6 "names" "is_names" rfl, ⟨_, _, Gnam.mono (by decide), F_is_names.kp, B_is_names⟩⟩
    | S => cases hk
    | s => cases hk⟩
  have Gfit := ok_fits (fun_of (st := sFits) F_fits) C
  have Groo := ok_rooms (fun_of (st := sRoomD) F_room_behind_parts) (He.glo_ok X G (cd.fact 11 (f := .glo "room_behind_parts") rfl)) B_room_behind_parts (fun_of (st := sRoom) F_room_behind) (He.glo_ok X G (cd.fact 10 (f := .glo "room_behind") rfl)) B_room_behind D Gisw (He.glo_ok X G (cd.fact 1 (f := .glo "is_word") rfl)) F_is_word.kp B_is_word Gfit (He.glo_ok X G (cd.fact 12 (f := .glo "fits") rfl)) F_fits.kp B_fits n_isinstance n_tuple n_str n_len
  have Giss := ok_isscript (fun_of (st := sIsScript) F_is_script) (Groo 5).1 (He.glo_ok X G (cd.fact 10 (f := .glo "room_behind") rfl)) F_room_behind.kp B_room_behind i_SCRIPT_LEVELS i_MOST_DEEDS
  have Gpen := ok_pen (P := P) (w := w) (base := base) (fun_of (st := sPen) F__law_pen) n_list
  have Gdraw := ok_draw (P := P) (w := w) (base := base) (fun_of (st := sDraw) F__law_draw) n_len
  have Gwork := ok_work (P := P) (w := w) (mg := mg) (pB := base) F_Work_init K_Work
  have Gput := ok_putw (P := P) (w := w) (mg := mg) (pB := base) (c := c) F_put_work XM
  have Gown := ok_own (P := P) (w := w) (mg := mg) (pB := base) (c := c) F_own_book XM
  have Gmkp := ok_mkp (P := P) (w := w) (pB := base) (c := c) F_make_promise XM (He.glo_ok X G (cd.fact 156 (f := .glo "OPEN") rfl)) kOp n_len
  have Gbeh := ok_beh (P := P) (w := w) (mg := mg) (pB := base) (c := c) F_takers_behind XM
  have Gmic := ok_mic (c := c) F_micro_of XM Gwork M_Work
  have Gset := ok_set (R := notW) (c := c) F_settle XM (He.glo_ok X G (cd.fact 156 (f := .glo "OPEN") rfl)) kOp Gown C_own_book Gbeh C_takers_behind Gmic C_micro_of
  have Gend := ok_end (P := P) (w := w) (mg := mg) (pB := base) (c := c) F_end_of_row XM
  have Gtke := ok_take (P := P) (w := w) (mg := mg) (pB := base) (c := c) F_take XM
  have GpuG := ok_putG (R := notW) (c := c) F_put_taker XM (He.glo_ok X G (cd.fact 157 (f := .glo "SETTLED") rfl)) kSe Gmic C_micro_of
  have Gfol := ok_fol (R := notW) (c := c) F_follow XM (He.glo_ok X G (cd.fact 156 (f := .glo "OPEN") rfl)) kOp (He.glo_ok X G (cd.fact 157 (f := .glo "SETTLED") rfl)) kSe Gown C_own_book Gend C_end_of_row Gset C_settle Gtke C_take (putT_of GpuG) C_put_taker
  have Gnum := ok_num (P := P) (w := w) (mg := mg) (pB := base) (c := c) F_new_number XM
  have Gsay := ok_say (P := P) (w := w) (mg := mg) (pB := base) (c := c) F_do_say XM
  have Gecho := ok_echo (P := P) (w := w) (mg := mg) (pB := base) (c := c) F_do_echo XM
  have Gthen := ok_then (R := notW) (c := c) F_do_then XM Gown C_own_book Gnum C_new_number Gmkp C_make_promise Gtke C_take GpuG C_put_taker
  have Gmake := ok_make (c := c) F_do_make XM Gown C_own_book Gmkp C_make_promise
  have Gkeep := ok_keep (c := c) F_do_keep XM Gset C_settle
  have Gbrk := ok_break (c := c) F_do_break XM Gset C_settle
  have Gdof := ok_dofol (c := c) F_do_follow XM Gfol C_follow
  have T : PlainT P w K mg base c 6 (act12 notW) (He.ga K "PLAIN") es2 nn2 := ⟨(He.glo_ok X G (cd.fact 155 (f := .glo "PLAIN") rfl)), kd2, fun M told deed M' r hA => by
    rcases hA with hA | hA | hA | hA | hA | hA | hA
    · obtain ⟨x, rfl, rfl, rfl⟩ := hA
      refine ⟨"say", [x], He.ga K "do_say", spAct K c actSay, rfl, eP0, ⟨_, _, Gsay.mono (by decide), F_do_say.kp, B_do_say⟩, ?_⟩
      rintro vs H Q E ⟨L, M1, t1, d1, M2, r2, vt, vd, e1, m1, a1, a2, ⟨rfl, rfl, rfl, rfl, rfl⟩, rest⟩
      exact ⟨L, _, _, _, _, _, vt, vd, e1, m1, a1, a2, ⟨x, rfl, rfl, rfl⟩, rest⟩
    · obtain ⟨rfl, rfl, rfl⟩ := hA
      refine ⟨"echo", [], He.ga K "do_echo", spAct K c actEcho, rfl, eP1, ⟨_, _, Gecho.mono (by decide), F_do_echo.kp, B_do_echo⟩, ?_⟩
      rintro vs H Q E ⟨L, M1, t1, d1, M2, r2, vt, vd, e1, m1, a1, a2, ⟨rfl, rfl, rfl, rfl, rfl⟩, rest⟩
      exact ⟨L, _, _, _, _, _, vt, vd, e1, m1, a1, a2, ⟨rfl, rfl, rfl⟩, rest⟩
    · obtain ⟨x, rfl, rfl, rfl⟩ := hA
      refine ⟨"make", [.str x], He.ga K "do_make", spAct K c actMake, rfl, eP3, ⟨_, _, Gmake.mono (by decide), F_do_make.kp, B_do_make⟩, ?_⟩
      rintro vs H Q E ⟨L, M1, t1, d1, M2, r2, vt, vd, e1, m1, a1, a2, ⟨rfl, rfl, rfl, rfl, rfl⟩, rest⟩
      exact ⟨L, _, _, _, _, _, vt, vd, e1, m1, a1, a2, ⟨x, rfl, rfl, rfl⟩, rest⟩
    · obtain ⟨x, v, n, rfl, h2, h3, rfl⟩ := hA
      refine ⟨"keep", [.str x, v], He.ga K "do_keep", spAct K c (actKeep notW), rfl, eP4, ⟨_, _, Gkeep.mono (by decide), F_do_keep.kp, B_do_keep⟩, ?_⟩
      rintro vs H Q E ⟨L, M1, t1, d1, M2, r2, vt, vd, e1, m1, a1, a2, ⟨rfl, rfl, rfl, rfl, rfl⟩, rest⟩
      exact ⟨L, _, _, _, _, _, vt, vd, e1, m1, a1, a2, ⟨x, v, n, rfl, h2, h3, rfl⟩, rest⟩
    · obtain ⟨x, v, n, rfl, h2, h3, rfl⟩ := hA
      refine ⟨"break", [.str x, v], He.ga K "do_break", spAct K c (actBreak notW), rfl, eP5, ⟨_, _, Gbrk.mono (by decide), F_do_break.kp, B_do_break⟩, ?_⟩
      rintro vs H Q E ⟨L, M1, t1, d1, M2, r2, vt, vd, e1, m1, a1, a2, ⟨rfl, rfl, rfl, rfl, rfl⟩, rest⟩
      exact ⟨L, _, _, _, _, _, vt, vd, e1, m1, a1, a2, ⟨x, v, n, rfl, h2, h3, rfl⟩, rest⟩
    · obtain ⟨x, y, n, o, rfl, h2, h3, h4, rfl⟩ := hA
      refine ⟨"follow", [.str x, .str y], He.ga K "do_follow", spAct K c (actFollow notW), rfl, eP6, ⟨_, _, Gdof.mono (by decide), F_do_follow.kp, B_do_follow⟩, ?_⟩
      rintro vs H Q E ⟨L, M1, t1, d1, M2, r2, vt, vd, e1, m1, a1, a2, ⟨rfl, rfl, rfl, rfl, rfl⟩, rest⟩
      exact ⟨L, _, _, _, _, _, vt, vd, e1, m1, a1, a2, ⟨x, y, n, o, rfl, h2, h3, h4, rfl⟩, rest⟩
    · obtain ⟨x, made, k, b, n, g, rfl, h2, h3, h4, h5, rfl⟩ := hA
      refine ⟨"then", [.str x, .str made, oS k, oS b], He.ga K "do_then", spAct K c (actThen notW), rfl, eP2, ⟨_, _, Gthen.mono (by decide), F_do_then.kp, B_do_then⟩, ?_⟩
      rintro vs H Q E ⟨L, M1, t1, d1, M2, r2, vt, vd, e1, m1, a1, a2, ⟨rfl, rfl, rfl, rfl, rfl⟩, rest⟩
      exact ⟨L, _, _, _, _, _, vt, vd, e1, m1, a1, a2, ⟨x, made, k, b, n, g, rfl, h2, h3, h4, h5, rfl⟩, rest⟩⟩
  have hAn : ∀ M told d M' r, act12 notW M told d M' r → r = .none ∨ ∃ x, r = .str x := fun M told d M' r h => by
    rcases h with h | h | h | h | h | h | h
    · obtain ⟨_, _, _, h⟩ := h; exact .inl h
    · obtain ⟨_, _, h⟩ := h; exact .inl h
    · obtain ⟨_, _, _, h⟩ := h; exact .inl h
    · obtain ⟨_, _, _, _, _, _, h⟩ := h; exact .inl h
    · obtain ⟨_, _, _, _, _, _, h⟩ := h; exact .inl h
    · obtain ⟨_, _, _, _, _, _, _, _, h⟩ := h; exact .inl h
    · obtain ⟨_, _, _, _, _, _, _, _, _, _, _, h⟩ := h; exact .inl h
  have Gew := ok_endw (R := notW) (c := c) F_end XM Gset C_settle
  have Gfresh := ok_freshE (R := notW) (c := c) F_begin_fresh XM T hAn Gew C_end (by decide)
  have Gfresh0 := ok_fresh (c := c) F_begin_fresh XM T
  have Gbegin := ok_begin (c := c) F_begin XM Gfresh C_begin_fresh Gew C_end (by decide)
  have GbegB := beg_of Gbegin
  have Gdm := ok_dm (c := c) (kk := 8) F_do_micros XM GbegB C_begin Gset C_settle (ok_gat0 (P := P) (w := w) (mg := mg) (pB := base) (k := 1) (ps := ["state", "pledge", "place", "fate"])) C_gather_fate (by decide) (by decide) (by decide) (by decide) n_len
  have Gtask := ok_task (c := c) F_begin_task XM (ok_no (P := P) (w := w) (pB := base) (k := 1) (ps := ["state"])) C_overdue_rank Gfresh0 C_begin_fresh (by decide)
  have Gbw := ok_bw (P := P) (w := w) (pB := base) (c := c) F_begin_without_works XM n_len
  have Gtu := ok_tu (c := c) F_tell_unhandled XM Gown C_own_book
  have Gdown := ok_downG (c := c) (kk := 9) F_settle_down XM Gtu C_tell_unhandled Gdm C_do_micros (ok_er0 (P := P) (w := w) (mg := mg) (pB := base) (k := 1) (ps := ["state"])) C_end_run (by decide) (by decide) (by decide) n_len
  have Gtake := ok_turnM (c := c) F_take_turn XM (Gtask.mono (show 8 ≤ 10 by decide)) C_begin_task Gbw C_begin_without_works Gdown C_settle_down (by decide) (by decide) n_any
  have Gturns := ok_turns (c := c) F_Loop_turns XM Y Gtake C_take_turn
  have Gjour := ok_jour (P := P) (w := w) (pB := base) (c := c) F_Loop_journal XM Y n_list
  have Gstate := ok_state (P := P) (w := w) (mg := mg) (pB := base) F_State_init K_State
  have Gbook := ok_book (P := P) (w := w) (mg := mg) (pB := base) F_Book_init K_Book
  have Gsetup := ok_setupG (P := P) (w := w) (pB := base) F_Setup_init K_Setup n_enumerate
  have Gfirst := ok_firstG (c := c) F_first_state XM Gstate M_State Gbook M_Book n_len n_range
  have Gloop := ok_loopG (c := c) F_Loop_init XM Y Gsetup M_Setup Gfirst C_first_state (He.glo_ok X G (cd.fact 53 (f := .glo "State") rfl)) xS n_isinstance n_tuple n_dict
  have z2 : XC K (xAd K 2) "ValueError" := xcX c2 PySem.F.excBase_ValueError PySem.F.store_ValueError tlValueError (by decide +kernel)
  have z7 : XC K (xAd K 7) "IndexError" := xcX c7 PySem.F.excBase_IndexError PySem.F.store_IndexError tlIndexError (by decide +kernel)
  have XS : Xr P w K mg base "NoScript" "thing" "ValueError" (xAd K 2) _ _ := ⟨z2, c2.c1, c2.c2, c2.c3, ok_ns F_NoScript_init z2 n_ValueError (vVV K) c2.b4, B_NoScript_init, (He.glo_ok X G (cd.fact 158 (f := .glo "NoScript") rfl))⟩
  have XR : Xr P w K mg base "NoRank" "rank" "IndexError" (xAd K 7) _ _ := ⟨z7, c7.c1, c7.c2, c7.c3, ok_nr F_NoRank_init z7 n_IndexError (vVI K) c7.b4, B_NoRank_init, (He.glo_ok X G (cd.fact 159 (f := .glo "NoRank") rfl))⟩
  have Gpost := ok_post (c := c) F_Loop_post XM Y XS XR Giss C_is_script Gbtw C_is_between Gput C_put_work Gwork M_Work n_len (by decide)
  have Gtk := ok_tk F__law_taken Gdraw C__law_draw n_int
  exact ok_law (c := c) F_law XM Y Gpen C__law_pen Gdraw C__law_draw Gtk C__law_taken Gloop (He.glo_ok X G (cd.fact 55 (f := .glo "Loop") rfl)) (He.mkr_ok (cd.fact 65 (f := .mkr "Loop") rfl)) BL Gpost (He.meth_ok (cd.fact 66 (f := .meth "Loop" "post") rfl)) BP1 Gturns (He.meth_ok (cd.fact 68 (f := .meth "Loop" "turns") rfl)) BT3 vd3 (by decide)
    Gjour (He.meth_ok (cd.fact 69 (f := .meth "Loop" "journal") rfl)) B_Loop_journal n_range n_tuple n_len n_int n_min
end
end My

open PySem PySem.W PySem.Calls PyProof.Rows
set_option Elab.async false
set_option maxRecDepth 100000
set_option maxHeartbeats 0
theorem PySem.Challenge.cw_rankloop_k12_whole_takers_in_their_order_holds : PySem.Challenge.rw_rankloop_k12_whole_takers_in_their_order.Holds := by
  refine My.early fun said => ?_
  refine HandSHeadRun.head_any (r := My.R) (q := My.qv) (H := My.hk) (ob := My.ob) (M := 12000) (loose := My.names) (d := HandSHeadRun.topDef My.R.prog 170) (kwd := []) My.ob_eq
    (by kernel_rfl) (fun s => by kernel_rfl) My.run (by kernel_rfl) (by kernel_rfl) (by kernel_rfl) (by rfl) said (by decide +kernel) ⟨rfl, rfl, rfl, rfl, rfl, My.tabs⟩ ?hw ?hc
  case hw => w_witness2
  case hc =>
    refine L2.walk_ofE (l := PySem.Challenge.rw_rankloop_k12_whole_takers_in_their_order) (n := 63) (k := 23) (x := "_law_script") (CX := L2.CX0) rfl (by decide) (by kernel_rfl) ⟨rfl, by decide, by decide⟩ ?F (fun _ _ _ _ z => z)
    intro w mg fa h Y G hmg0
    obtain ⟨K, KX, c⟩ := Y
    have hmg : mg ("law" : PySem.Str) = some (.ref fa) := by
      have e : (HandSHeadRun.topDef My.R.prog 170).name = ("law" : PySem.Str) := by kernel_rfl
      rw [← e]
      exact hmg0
    obtain ⟨fd, hb, hF⟩ := My.facts (P := (PySem.Challenge.rw_rankloop_k12_whole_takers_in_their_order).prog) (w := w) KX G hmg c
    exact ⟨K, fd, My.spLaw K, KX, hb, fun H a ns hl _ hS => ⟨a, ns, rfl, hS, fun _ => rfl⟩, hF⟩

