"""[60] to [65], [67], [68]: HOUSES, each deed and each of its refusals."""

from pathfolios.houses import Houses
from tests.checks import Checks, at, tree
from tests.makers import ODD_THINGS, shape_of

NOTHING = ((), (), ())
PUT = tuple([("put", name, tree(a=number), 0) for number, name in enumerate("abcdefgh")])
STRANGE = (-1, -3, -10 ** 59, 10 ** 59, 3, 4, 5, 99)


def all_told(houses):
    """All that HOUSES tell."""
    many = len(houses.paper())
    told = [(houses.is_up(house), houses.does_lead(house), houses.term_of(house), houses.done_of(house),
             houses.vote_of(house), houses.log_of(house), [houses.is_linked(house, other) for other in range(many)])
            for house in range(many)]
    return shape_of((told, houses.paper(), houses.leaders(), len(houses), str(houses)))


def led_by(house, *entries, many=3, sent=()):
    """HOUSES that one LEADS in TERM 1, with ENTRIES written and sent to others."""
    houses = Houses(many)
    houses.stand(house)
    for entry in entries:
        houses.write(house, entry)
    for other in sent:
        houses.send(house, other)
    return houses


class HousesCase(Checks):
    def deed(self, houses, text, told, word, *given):
        """A deed tells this, and str is this behind it."""
        self.told(told, getattr(houses, word), *given)
        self.assertEqual(str(houses), text)

    def no_deed(self, houses, name, fields, word, *given, **named):
        """A deed is refused, and turns nothing."""
        ahead, kept = all_told(houses), [houses.facts()]
        self.refused(name, fields, getattr(houses, word), *given, **named)
        self.assertEqual(all_told(houses), ahead)
        self.assertEqual(shape_of([houses.facts()]), shape_of(kept))

    def no_turn(self, houses, reason, word, *given):
        self.no_deed(houses, "NoTurn", (reason,), word, *given)


class AtFirst(HousesCase):
    def test_how_many(self):
        for houses, many in ((Houses(), 3), (Houses(3), 3), (Houses(4), 4), (Houses(many=5), 5)):
            self.assertEqual(str(houses), " ".join(["0.0.0"] * many))
            self.assertEqual(len(houses), 0)
            self.told((), houses.leaders)
            self.told(((0, None, (), 0),) * many, houses.paper)
            for house in range(many):
                for told, call in ((True, houses.is_up), (False, houses.does_lead), (0, houses.term_of),
                                   (0, houses.done_of), (None, houses.vote_of), ((), houses.log_of)):
                    self.told(told, call, house)
                for other in range(many):
                    self.told(True, houses.is_linked, house, other)

    def test_strange_houses(self):
        for many in (3, 4, 5):
            houses = led_by(0, PUT[0], many=many, sent=(1, 2))
            houses.fall(1)
            for house in [strange for strange in STRANGE if not 0 <= strange < many]:
                for word in ("is_up", "does_lead", "term_of", "done_of", "vote_of", "log_of", "stand", "fall", "rise",
                             "read", "latest"):
                    self.no_deed(houses, "NoHouse", (house,), word, house)
                self.no_deed(houses, "NoHouse", (house,), "read", house, mark=99)
                for entry in PUT[:1] + (("gone", "z"),):
                    self.no_deed(houses, "NoHouse", (house,), "write", house, entry)
                for word in ("is_linked", "send", "part", "meet"):
                    for other in (0, 1, 2, house, 77, -7):
                        self.no_deed(houses, "NoHouse", (house,), word, house, other)
                    for other in (0, 1, 2):
                        self.no_deed(houses, "NoHouse", (house,), word, other, house)


class Stand(HousesCase):
    def test_all_vote(self):
        for many in (3, 4, 5):
            houses = Houses(many)
            text = " ".join(["1.0.0"] * (many - 1) + ["1.0.0+"])
            self.deed(houses, text, (1, tuple(range(many))), "stand", many - 1)
            self.told((many - 1,), houses.leaders)
            self.told(True, houses.does_lead, many - 1)
            for house in range(many):
                self.told(many - 1, houses.vote_of, house)

    def test_down(self):
        houses = Houses()
        houses.fall(1)
        self.no_turn(houses, "down", "stand", 1)

    def test_again(self):
        houses = Houses()
        self.deed(houses, "1.0.0+ 1.0.0 1.0.0", (1, (0, 1, 2)), "stand", 0)
        self.deed(houses, "2.0.0+ 2.0.0 2.0.0", (2, (0, 1, 2)), "stand", 0)
        self.deed(houses, "3.0.0 3.0.0+ 3.0.0", (3, (0, 1, 2)), "stand", 1)

    def test_few(self):
        houses = Houses(4)
        houses.fall(1)
        houses.part(3, 0)
        self.deed(houses, "1.0.0 0.0.0- 1.0.0 0.0.0", (1, (0, 2)), "stand", 0)
        self.told(False, houses.does_lead, 0)
        self.told(0, houses.vote_of, 0)
        self.told(0, houses.vote_of, 2)
        self.told(None, houses.vote_of, 3)
        houses = Houses(3)
        houses.fall(1)
        self.deed(houses, "1.0.0+ 0.0.0- 1.0.0", (1, (0, 2)), "stand", 0)
        houses = Houses(5)
        houses.fall(1)
        houses.fall(2)
        self.deed(houses, "1.0.0 0.0.0- 0.0.0- 1.0.0 1.0.0+", (1, (0, 3, 4)), "stand", 4)
        houses.part(4, 0)
        self.deed(houses, "1.0.0 0.0.0- 0.0.0- 2.0.0 2.0.0", (2, (3, 4)), "stand", 4)

    def test_alone(self):
        houses = Houses()
        houses.part(0, 1)
        houses.part(2, 0)
        for term in (1, 2, 3):
            self.deed(houses, f"{term}.0.0 0.0.0 0.0.0", (term, (0,)), "stand", 0)
        self.told(0, houses.vote_of, 0)

    def test_a_neighbour_of_a_term_above(self):
        houses = Houses()
        houses.part(0, 1)
        houses.part(0, 2)
        for _ in range(3):
            houses.stand(0)
        self.assertEqual(str(houses), "3.0.0 0.0.0 0.0.0")
        houses.meet(0, 1)
        self.deed(houses, "3.0.0 3.0.0 0.0.0", (3, ()), "stand", 1)
        self.told(None, houses.vote_of, 1)
        self.deed(houses, "3.0.0 3.0.0 3.0.0", (3, ()), "stand", 2)
        self.deed(houses, "4.0.0 4.0.0+ 4.0.0", (4, (0, 1, 2)), "stand", 1)

    def test_the_greatest_of_theirs(self):
        houses = Houses(4)
        for one, other in ((0, 1), (0, 2), (0, 3), (1, 2), (1, 3), (2, 3)):
            houses.part(one, other)
        for house, many in ((1, 3), (2, 5), (3, 7)):
            for _ in range(many):
                houses.stand(house)
        houses.meet(0, 1)
        houses.meet(0, 2)
        self.deed(houses, "5.0.0 3.0.0 5.0.0 7.0.0", (5, ()), "stand", 0)

    def test_a_neighbour_of_just_the_term(self):
        houses = Houses()
        houses.part(0, 1)
        houses.part(0, 2)
        houses.stand(0)
        houses.meet(0, 1)
        # 0 has voted in TERM 1 already.
        self.deed(houses, "1.0.0 1.0.0+ 1.0.0", (1, (1, 2)), "stand", 1)
        self.told(0, houses.vote_of, 0)

    def test_one_in_just_the_term_that_hasnt_voted(self):
        houses = Houses()
        for one, other in ((0, 1), (0, 2), (1, 2)):
            houses.part(one, other)
        for house, many in ((0, 5), (2, 4)):
            for _ in range(many):
                houses.stand(house)
        houses.meet(0, 1)
        self.deed(houses, "5.0.0 5.0.0 4.0.0", (5, ()), "stand", 1)
        houses.meet(1, 2)
        # 1 came INTO TERM 5 without a vote, and gives it now.
        self.deed(houses, "5.0.0 5.0.0 5.0.0+", (5, (1, 2)), "stand", 2)
        self.assertEqual([houses.vote_of(house) for house in range(3)], [0, 2, 2])

    def test_a_neighbour_that_comes_into_the_term_leads_no_more(self):
        houses = led_by(0)
        self.deed(houses, "2.0.0 2.0.0+ 2.0.0", (2, (0, 1, 2)), "stand", 1)
        self.told(False, houses.does_lead, 0)

    def test_one_that_stands_leads_no_more(self):
        houses = led_by(0)
        houses.fall(1)
        houses.fall(2)
        self.deed(houses, "2.0.0 1.0.0- 1.0.0-", (2, (0,)), "stand", 0)
        houses = led_by(0)
        houses.part(1, 0)
        houses.part(2, 0)
        houses.stand(1)
        houses.stand(1)
        houses.stand(1)
        houses.meet(0, 1)
        self.deed(houses, "4.0.0 4.0.0+ 4.0.0", (4, ()), "stand", 0)

    def test_logs_that_are_worse_by_how_long(self):
        houses = led_by(0, PUT[0], sent=(1,))
        self.deed(houses, "2.1.1 2.1.1 2.0.0", (2, (2,)), "stand", 2)
        self.told(None, houses.vote_of, 0)
        self.told(None, houses.vote_of, 1)
        self.deed(houses, "3.1.1 3.1.1+ 3.0.0", (3, (0, 1, 2)), "stand", 1)
        houses.write(1, PUT[1])
        self.deed(houses, "4.1.1+ 4.2.1 4.0.0", (4, (0, 2)), "stand", 0)
        self.told(None, houses.vote_of, 1)

    def test_logs_that_are_worse_by_the_term(self):
        houses = led_by(0, PUT[0], PUT[1], PUT[2])
        houses.fall(0)
        houses.stand(1)
        houses.write(1, PUT[3])
        houses.rise(0)
        self.assertEqual(str(houses), "1.3.0 2.1.0+ 2.0.0")
        # Of 0 the last TERM is 1 and of 1 it is 2, whatever their LENGTHS.
        self.deed(houses, "2.3.0 2.1.0+ 2.0.0", (2, (0,)), "stand", 0)
        self.deed(houses, "3.3.0+ 3.1.0 3.0.0", (3, (0, 2)), "stand", 0)
        self.told(None, houses.vote_of, 1)
        self.deed(houses, "4.3.0 4.1.0+ 4.0.0", (4, (0, 1, 2)), "stand", 1)

    def test_one_that_voted_already_and_parted_ones(self):
        houses = Houses(5)
        houses.part(0, 4)
        houses.part(0, 3)
        self.deed(houses, "1.0.0+ 1.0.0 1.0.0 0.0.0 0.0.0", (1, (0, 1, 2)), "stand", 0)
        self.deed(houses, "1.0.0+ 1.0.0 1.0.0 1.0.0 1.0.0", (1, (3, 4)), "stand", 4)
        self.assertEqual([houses.vote_of(house) for house in range(5)], [0, 0, 0, 4, 4])

    def test_holds_begin_anew(self):
        houses = led_by(0, PUT[0], sent=(1, 2))
        houses.stand(0)
        houses.write(0, PUT[1])
        self.assertEqual(str(houses), "2.2.1+ 2.1.1 2.1.1")
        self.told(((), 2), houses.send, 0, 1)


class Write(HousesCase):
    def test_told(self):
        houses = led_by(1)
        self.deed(houses, "1.0.0 1.1.0+ 1.0.0", 1, "write", 1, PUT[0])
        self.deed(houses, "1.0.0 1.2.0+ 1.0.0", 2, "write", 1, ("index", "by", at("a"), True, None))
        self.told(((1, PUT[0]), (1, ("index", "by", at("a"), True, None))), houses.log_of, 1)
        houses.stand(1)
        self.told(3, houses.write, 1, PUT[0])
        self.told((2, PUT[0]), lambda house: houses.log_of(house)[-1], 1)
        self.told((), houses.log_of, 0)

    def test_refused(self):
        houses = led_by(1)
        for entry in (PUT[0], ("gone", "x"), ("put", "x", tree(), 3)):
            self.no_turn(houses, "leads", "write", 0, entry)
        houses.fall(1)
        for entry in (PUT[0], ("gone", "x")):
            self.no_turn(houses, "down", "write", 1, entry)
        houses.rise(1)
        self.no_turn(houses, "leads", "write", 1, PUT[0])

    def test_not_let_in_behind_the_whole_log(self):
        houses = led_by(0, PUT[0], ("index", "by", at("a"), True, None), ("shape", (("into", "k", "k"),)), sent=(1,))
        for refusal, entry in ((("NoMark", (2,)), ("put", "x", tree(), 2)), (("NoId", ("b",)), ("gone", "b")),
                               (("NoName", ("a",)), ("bare", "a")), (("NoKey", ("by", "x")), ("put", "x", tree(a=0), 1)),
                               (("NoLead", ("a", 0)), ("shape", (("out", "a", "b"),)))):
            self.no_deed(houses, *refusal, "write", 0, entry)
        houses.write(0, ("gone", "a"))
        # What isn't DONE yet counts, too.
        self.no_deed(houses, "NoId", ("a",), "write", 0, ("gone", "a"))
        self.told(5, houses.write, 0, ("put", "x", tree(a=0), 1))


class Send(HousesCase):
    def test_told(self):
        houses = led_by(0, PUT[0], PUT[1])
        self.deed(houses, "1.2.2+ 1.2.2 1.0.0", ((), 2), "send", 0, 1)
        self.told(houses.log_of(0), houses.log_of, 1)
        self.deed(houses, "1.2.2+ 1.2.2 1.2.2", ((), 2), "send", 0, 2)
        self.deed(houses, "1.2.2+ 1.2.2 1.2.2", ((), 2), "send", 0, 2)

    def test_nothing_to_send(self):
        houses = led_by(0)
        self.deed(houses, "1.0.0+ 1.0.0 1.0.0", ((), 0), "send", 0, 1)

    def test_done_by_most(self):
        houses = led_by(0, PUT[0], many=5)
        self.deed(houses, "1.1.0+ 1.1.0 1.0.0 1.0.0 1.0.0", ((), 0), "send", 0, 1)
        self.deed(houses, "1.1.0+ 1.1.0 1.0.0 1.0.0 1.0.0", ((), 0), "send", 0, 1)
        houses.write(0, PUT[1])
        self.deed(houses, "1.2.1+ 1.1.0 1.2.1 1.0.0 1.0.0", ((), 1), "send", 0, 2)
        self.deed(houses, "1.2.2+ 1.1.0 1.2.1 1.2.2 1.0.0", ((), 2), "send", 0, 3)
        self.deed(houses, "1.2.2+ 1.2.2 1.2.1 1.2.2 1.0.0", ((), 2), "send", 0, 1)
        houses = led_by(0, PUT[0], many=4)
        self.deed(houses, "1.1.0+ 1.1.0 1.0.0 1.0.0", ((), 0), "send", 0, 1)
        self.deed(houses, "1.1.1+ 1.1.0 1.0.0 1.1.1", ((), 1), "send", 0, 3)

    def test_done_by_its_own_term_alone(self):
        houses = led_by(0, PUT[0], many=5, sent=(1,))
        houses.stand(1)
        self.assertEqual(str(houses), "2.1.0 2.1.0+ 2.0.0 2.0.0 2.0.0")
        for other in (2, 3, 4):
            self.told(((), 0), houses.send, 1, other)
        self.assertEqual(str(houses), "2.1.0 2.1.0+ 2.1.0 2.1.0 2.1.0")
        houses.write(1, PUT[1])
        self.told(((), 0), houses.send, 1, 2)
        # Once a pair of its own TERM is held by MOST, those ahead of it are DONE, too.
        self.deed(houses, "2.1.0 2.2.2+ 2.2.0 2.2.2 2.1.0", ((), 2), "send", 1, 3)

    def test_a_greater_term_of_the_other_one(self):
        houses = led_by(0, PUT[0], sent=(1,))
        houses.part(0, 2)
        houses.part(1, 2)
        for _ in range(3):
            houses.stand(2)
        houses.meet(0, 2)
        self.deed(houses, "4.1.1 1.1.1 4.0.0", None, "send", 0, 2)
        self.told(None, houses.vote_of, 0)
        self.told(2, houses.vote_of, 2)
        self.told((), houses.leaders)

    def test_the_other_of_a_lesser_term_comes_into_it(self):
        houses = Houses()
        houses.fall(2)
        houses.stand(0)
        houses.stand(1)
        houses.rise(2)
        self.deed(houses, "2.0.0 2.0.0+ 2.0.0", ((), 0), "send", 1, 2)
        self.told(None, houses.vote_of, 2)
        self.told(1, houses.vote_of, 0)

    def test_in_one_term_the_vote_stays(self):
        houses = led_by(0)
        houses.send(0, 1)
        self.told(0, houses.vote_of, 1)

    def test_one_that_leads_in_a_lesser_term(self):
        houses = led_by(0, PUT[0])
        houses.part(0, 1)
        houses.part(0, 2)
        houses.stand(1)
        self.told((0, 1), houses.leaders)
        houses.write(1, PUT[1])
        houses.meet(0, 1)
        self.deed(houses, "2.1.1 2.1.1+ 2.0.0", (((1, PUT[0]),), 1), "send", 1, 0)
        self.told((1,), houses.leaders)

    def test_rolled_back(self):
        houses = led_by(0, PUT[0], sent=(1, 2))
        for entry in PUT[1:4]:
            houses.write(0, entry)
        houses.fall(0)
        houses.stand(1)
        houses.write(1, PUT[1])
        houses.write(1, PUT[4])
        houses.rise(0)
        # Number 2 has the like ENTRY, but another TERM.
        rolled = ((2, PUT[1]), (3, PUT[2]), (4, PUT[3]))
        self.deed(houses, "2.3.3 2.3.3+ 2.1.1", (rolled, 3), "send", 1, 0)
        self.told(houses.log_of(1), houses.log_of, 0)

    def test_rolled_back_where_the_new_one_is_shorter(self):
        houses = led_by(0, PUT[0], sent=(1, 2))
        houses.write(0, PUT[1])
        houses.write(0, PUT[2])
        houses.fall(0)
        houses.stand(1)
        houses.rise(0)
        self.deed(houses, "2.1.1 2.1.1+ 2.1.1", (((2, PUT[1]), (3, PUT[2])), 1), "send", 1, 0)

    def test_rolled_back_but_for_a_truth(self):
        houses = led_by(0, ("put", "x", tree(a=1), 0))
        houses.fall(0)
        houses.stand(1)
        houses.write(1, ("put", "x", tree(a=True), 0))
        houses.rise(0)
        self.told((((1, ("put", "x", tree(a=1), 0)),), 1), houses.send, 1, 0)

    def test_the_others_done(self):
        houses = led_by(0, PUT[0], sent=(1, 2))
        houses.stand(2)
        # 2 knows it DONE; 0, sent to by it, has it done already.
        self.deed(houses, "2.1.1 2.1.1 2.1.1+", ((), 1), "send", 2, 0)
        houses = led_by(0, PUT[0], sent=(1,))
        houses.fall(0)
        houses.stand(2)
        houses.stand(1)
        self.assertEqual(str(houses), "1.1.1- 3.1.1+ 3.0.0")
        self.deed(houses, "1.1.1- 3.1.1+ 3.1.1", ((), 1), "send", 1, 2)
        # The DONE of the first is less than that of the other one, and of a lesser TERM: it stays.
        houses = led_by(0, PUT[0], many=3, sent=(1,))
        houses.write(0, PUT[1])
        houses.send(0, 2)
        houses.stand(2)
        self.assertEqual(str(houses), "2.2.2 2.1.1 2.2.2+")
        houses = led_by(0, PUT[0], PUT[1], many=5, sent=(1, 2))
        self.assertEqual(str(houses), "1.2.2+ 1.2.0 1.2.2 1.0.0 1.0.0")
        houses.stand(1)
        self.deed(houses, "2.2.2 2.2.0+ 2.2.2 2.0.0 2.0.0", ((), 0), "send", 1, 2)

    def test_each_refusal(self):
        houses = led_by(0, PUT[0])
        self.no_turn(houses, "same", "send", 0, 0)
        self.no_turn(houses, "leads", "send", 1, 0)
        houses.fall(1)
        self.no_turn(houses, "down", "send", 1, 0)
        self.no_turn(houses, "other", "send", 0, 1)
        houses.part(0, 2)
        self.no_turn(houses, "parted", "send", 0, 2)

    def test_the_first_that_is_due(self):
        houses = led_by(0, PUT[0])
        houses.part(0, 2)
        houses.fall(2)
        self.no_turn(houses, "other", "send", 0, 2)
        self.no_turn(houses, "leads", "send", 1, 2)
        self.no_turn(houses, "same", "send", 2, 2)
        self.no_turn(houses, "same", "send", 1, 1)
        houses.fall(0)
        self.no_turn(houses, "down", "send", 0, 2)
        self.no_turn(houses, "down", "send", 2, 0)


class FallAndRise(HousesCase):
    def test_fall(self):
        houses = led_by(0, PUT[0], sent=(1,))
        self.deed(houses, "1.1.1- 1.1.1 1.0.0", None, "fall", 0)
        self.told(False, houses.is_up, 0)
        self.told(False, houses.does_lead, 0)
        self.told(0, houses.vote_of, 0)
        self.told(((1, PUT[0]),), houses.log_of, 0)
        self.deed(houses, "1.1.1- 1.1.1 1.0.0-", None, "fall", 2)
        self.no_turn(houses, "down", "fall", 0)

    def test_rise(self):
        houses = led_by(0, PUT[0], sent=(1,))
        self.no_turn(houses, "up", "rise", 0)
        houses.fall(0)
        # One that led leads no more.
        self.deed(houses, "1.1.1 1.1.1 1.0.0", None, "rise", 0)
        self.told((), houses.leaders)
        self.no_turn(houses, "leads", "write", 0, PUT[1])
        self.no_turn(houses, "up", "rise", 0)

    def test_all_may_fall(self):
        houses = led_by(0)
        for house in range(3):
            self.told(None, houses.fall, house)
        self.assertEqual(str(houses), "1.0.0- 1.0.0- 1.0.0-")


class PartAndMeet(HousesCase):
    def test_told(self):
        houses = Houses(4)
        for told, word, one, other in ((True, "part", 0, 1), (False, "part", 0, 1), (False, "part", 1, 0),
                                       (True, "meet", 1, 0), (False, "meet", 1, 0), (False, "meet", 0, 1),
                                       (True, "part", 3, 1), (True, "part", 3, 2), (False, "meet", 0, 1)):
            self.told(told, getattr(houses, word), one, other)
            self.told(word == "meet", houses.is_linked, one, other)
            self.told(word == "meet", houses.is_linked, other, one)
        for one in range(4):
            for other in range(4):
                parted = sorted((one, other)) in ([1, 3], [2, 3])
                self.told(not parted, houses.is_linked, one, other)

    def test_houses_that_are_down(self):
        houses = Houses()
        houses.fall(0)
        houses.fall(1)
        self.told(True, houses.part, 0, 1)
        self.told(True, houses.meet, 0, 1)

    def test_same(self):
        houses = Houses()
        for house in range(3):
            self.no_turn(houses, "same", "part", house, house)
            self.no_turn(houses, "same", "meet", house, house)


class Reads(HousesCase):
    def test_read(self):
        houses = led_by(0, PUT[0], PUT[1], sent=(1,))
        houses.write(0, PUT[2])
        history = (0, NOTHING, PUT[:2])
        for house in (0, 1):
            self.told((2, history), houses.read, house)
            for mark in (0, 1, 2):
                self.told((2, history), houses.read, house, mark=mark)
            for mark in (3, 4, 10 ** 59):
                self.no_deed(houses, "Behind", (2,), "read", house, mark=mark)
        self.told((0, (0, NOTHING, ())), houses.read, 2)
        self.no_deed(houses, "Behind", (0,), "read", 2, mark=1)
        houses.fall(1)
        for mark in (0, 2, 3):
            self.no_deed(houses, "NoTurn", ("down",), "read", 1, mark=mark)

    def test_latest(self):
        houses = led_by(0, PUT[0], sent=(2,))
        self.told((1, (0, NOTHING, PUT[:1])), houses.latest, 0)
        houses.write(0, PUT[1])
        self.told((1, (0, NOTHING, PUT[:1])), houses.latest, 0)
        houses.send(0, 1)
        self.told((2, (0, NOTHING, PUT[:2])), houses.latest, 0)

    def test_each_refusal(self):
        houses = led_by(0, PUT[0])
        self.no_turn(houses, "own", "latest", 0)
        self.no_turn(houses, "leads", "latest", 1)
        houses.send(0, 1)
        houses.fall(1)
        self.no_turn(houses, "down", "latest", 1)
        houses.part(0, 2)
        self.no_turn(houses, "few", "latest", 0)
        houses.meet(0, 2)
        self.told((1, (0, NOTHING, PUT[:1])), houses.latest, 0)
        houses.part(0, 2)
        houses.stand(2)
        houses.meet(0, 2)
        self.no_turn(houses, "term", "latest", 0)

    def test_own(self):
        houses = led_by(0, PUT[0], sent=(1, 2))
        houses.stand(0)
        self.no_turn(houses, "own", "latest", 0)
        houses.write(0, PUT[1])
        self.no_turn(houses, "own", "latest", 0)
        houses.send(0, 1)
        self.told((2, (0, NOTHING, PUT[:2])), houses.latest, 0)

    def test_the_first_that_is_due(self):
        houses = led_by(0, many=5)
        houses.part(0, 1)
        houses.part(1, 2)
        houses.part(1, 3)
        houses.part(1, 4)
        houses.stand(1)
        houses.stand(1)
        houses.meet(0, 1)
        for house in (2, 3, 4):
            houses.fall(house)
        self.no_turn(houses, "term", "latest", 0)
        houses.part(0, 1)
        self.no_turn(houses, "few", "latest", 0)
        self.no_turn(houses, "leads", "latest", 1)
        houses.rise(2)
        houses.rise(3)
        self.no_turn(houses, "own", "latest", 0)
        houses.fall(0)
        self.no_turn(houses, "down", "latest", 0)

    def test_few(self):
        houses = led_by(0, PUT[0], many=4, sent=(1, 2, 3))
        houses.fall(1)
        self.told((1, (0, NOTHING, PUT[:1])), houses.latest, 0)
        houses.part(0, 2)
        self.no_turn(houses, "few", "latest", 0)

    def test_neighbours_of_a_lesser_term_come_into_its_own(self):
        houses = Houses(4)
        houses.fall(3)
        houses.stand(0)
        houses.write(0, PUT[0])
        houses.send(0, 1)
        houses.send(0, 2)
        houses.rise(3)
        self.assertEqual(str(houses), "1.1.1+ 1.1.0 1.1.1 0.0.0")
        self.deed(houses, "1.1.1+ 1.1.0 1.1.1 1.0.0", (1, (0, NOTHING, PUT[:1])), "latest", 0)
        self.told(None, houses.vote_of, 3)
        self.told(0, houses.vote_of, 1)
        # One that is down, or parted, does not.
        houses = Houses(4)
        houses.fall(3)
        houses.stand(0)
        houses.write(0, PUT[0])
        houses.send(0, 1)
        houses.send(0, 2)
        self.deed(houses, "1.1.1+ 1.1.0 1.1.1 0.0.0-", (1, (0, NOTHING, PUT[:1])), "latest", 0)
        houses.rise(3)
        houses.part(3, 0)
        self.deed(houses, "1.1.1+ 1.1.0 1.1.1 0.0.0", (1, (0, NOTHING, PUT[:1])), "latest", 0)

    def test_one_that_leads_in_a_lesser_term_leads_no_more(self):
        houses = led_by(0, PUT[0], many=5, sent=(1, 2))
        for other in range(1, 5):
            houses.part(0, other)
        houses.stand(1)
        houses.write(1, PUT[1])
        houses.send(1, 2)
        houses.send(1, 3)
        houses.meet(0, 1)
        self.told((0, 1), houses.leaders)
        self.told((2, (0, NOTHING, PUT[:2])), houses.latest, 1)
        self.told((1,), houses.leaders)
        self.told(2, houses.term_of, 0)


class Texts(HousesCase):
    def test_signs(self):
        houses = led_by(2, PUT[0], PUT[1], many=5, sent=(0, 1))
        houses.fall(3)
        self.assertEqual(str(houses), "1.2.0 1.2.2 1.2.2+ 1.0.0- 1.0.0")
        houses.fall(2)
        self.assertEqual(str(houses), "1.2.0 1.2.2 1.2.2- 1.0.0- 1.0.0")

    def test_two_that_lead(self):
        houses = led_by(0, many=3)
        houses.part(0, 1)
        houses.part(0, 2)
        houses.stand(2)
        self.assertEqual(str(houses), "1.0.0+ 2.0.0 2.0.0+")
        self.told((0, 2), houses.leaders)

    def test_len(self):
        houses = led_by(0, *PUT[:4])
        self.assertEqual(len(houses), 0)
        houses.send(0, 1)
        self.assertEqual(len(houses), 4)
        houses.fall(0)
        houses.fall(1)
        self.assertEqual(len(houses), 4)

    def test_paper(self):
        houses = led_by(0, PUT[0], sent=(1,))
        log = ((1, PUT[0]),)
        self.told(((1, 0, log, 1), (1, 0, log, 1), (1, 0, (), 0)), houses.paper)
        houses.fall(2)
        houses.stand(1)
        self.told(((2, 1, log, 1), (2, 1, log, 1), (1, 0, (), 0)), houses.paper)


class Equal(HousesCase):
    def equal(self, one, other, so):
        for left, right in ((one, other), (other, one)):
            self.assertIs(left == right, so)
            self.assertIs(left != right, not so)

    def test_like_ones(self):
        self.equal(Houses(), Houses(3), True)
        self.equal(led_by(0, PUT[0], sent=(1,)), led_by(0, PUT[0], sent=(1,)), True)
        houses = Houses(4)
        self.equal(houses, houses, True)
        one, other = Houses(), Houses()
        one.part(0, 1)
        self.equal(one, other, False)
        other.part(1, 0)
        self.equal(one, other, True)
        one.meet(0, 1)
        other.meet(0, 1)
        self.equal(one, Houses(), True)

    def test_unlike_ones(self):
        self.equal(Houses(3), Houses(4), False)
        base = led_by(0, PUT[0], sent=(1,))
        turns = {"up": ("fall", 2), "links": ("part", 1, 2), "log": ("write", 0, PUT[1]), "term": ("stand", 2),
                 "leads": ("fall", 0)}
        for deed in turns.values():
            other = led_by(0, PUT[0], sent=(1,))
            getattr(other, deed[0])(*deed[1:])
            self.equal(base, other, False)

    def test_votes(self):
        one, other = Houses(), Houses()
        for houses in (one, other):
            houses.part(1, 2)
        one.stand(1)
        one.fall(1)
        one.rise(1)
        other.stand(0)
        other.fall(0)
        other.rise(0)
        self.equal(one, other, False)

    def test_holds_alone(self):
        one, other = led_by(0, PUT[0], many=5, sent=(1,)), led_by(0, PUT[0], many=5)
        self.assertNotEqual(one.log_of(1), other.log_of(1))
        # Both LOGS of 1 are void and all are alike, but one HOLDS 0 of a LOG that the other knows to be held.
        one, other = Houses(4), Houses(4)
        for houses in (one, other):
            houses.stand(0)
            houses.write(0, PUT[0])
            houses.send(0, 1)
        other.stand(0)
        one.stand(0)
        one.send(0, 1)
        self.assertEqual(str(one), str(other))
        self.assertEqual(one.paper(), other.paper())
        self.equal(one, other, False)
        other.send(0, 1)
        self.equal(one, other, True)
        # One that leads no more HOLDS nothing of others.
        one.send(0, 2)
        one.fall(0)
        other.send(0, 2)
        other.fall(0)
        self.equal(one, other, True)

    def test_a_truth_beside_a_number(self):
        self.equal(led_by(0, ("put", "x", tree(a=1), 0)), led_by(0, ("put", "x", tree(a=True), 0)), False)

    def test_other_things(self):
        for thing in ODD_THINGS + ("0.0.0 0.0.0 0.0.0", 0, 3, (), Houses().paper(), True):
            self.equal(Houses(), thing, False)


class WhatIsTold(HousesCase):
    def test_stays(self):
        houses = led_by(0, PUT[0], sent=(1,))
        told = (houses.paper(), houses.log_of(0), houses.read(0), houses.leaders())
        ahead = shape_of(told)
        houses.write(0, PUT[1])
        houses.send(0, 1)
        houses.stand(1)
        self.assertEqual(shape_of(told), ahead)
