"""[76], [77]: a STORE at first, and the deeds of its HOUSES."""

from pathfolios.houses import Houses
from pathfolios.store import Store
from tests.makers import shape_of
from tests.stores import STRANGE_HOUSES, X, Y, StoreCase, behind, led


class AtFirst(StoreCase):
    def test_what_is_told(self):
        for store, many in ((Store(), 3), (Store(3), 3), (Store(4), 4), (Store(many=5), 5)):
            self.tells(((0, None, (), 0),) * many, store, "paper")
            self.tells(" ".join(["0.0.0"] * many), store, "houses_text")
            self.tells((), store, "leaders")
            self.tells(0, store, "floor")
            self.tells((), store, "branches")
            self.tells((("store", many),), store, "log")
            self.tells(0, store, "walks")
            self.assertEqual((len(store), str(store)), (0, f"store {many}"))
            for asker in ("a", "ann", "zzzzzzzz"):
                self.tells(0, store, "mark_of", asker)
                self.tells((), store, "writes_of", asker)
                self.tells((), store, "tale_of", asker)
            for house in range(many):
                self.tells((0, ((), (), ()), ()), store, "history_of", house)


class HouseDeeds(StoreCase):
    def test_stand(self):
        store = Store()
        self.deed(store, (1, (0, 1, 2)), "stand", 0)
        self.tells("1.0.0+ 1.0.0 1.0.0", store, "houses_text")
        self.tells((0,), store, "leaders")
        store.fall(1)
        self.no_turn(store, "down", "stand", 1)
        self.no_house(store, "stand", None)

    def test_stand_where_a_neighbour_has_a_term_above(self):
        store = behind(("part", 0, 1), ("part", 0, 2), ("stand", 0), ("stand", 0), ("meet", 0, 1))
        self.deed(store, (2, ()), "stand", 1)
        self.tells("2.0.0 2.0.0 0.0.0", store, "houses_text")

    def test_fall_and_rise(self):
        store = led(X)
        self.deed(store, None, "fall", 0)
        self.tells("1.1.1- 1.1.1 1.1.1", store, "houses_text")
        self.no_turn(store, "down", "fall", 0)
        self.deed(store, None, "rise", 0)
        self.no_turn(store, "up", "rise", 0)
        self.no_house(store, "fall", None)
        self.no_house(store, "rise", None)

    def test_part_and_meet(self):
        store = Store()
        # What turns nothing is noted, too.
        for told, word in ((False, "meet"), (True, "part"), (False, "part"), (True, "meet"), (False, "meet")):
            self.deed(store, told, word, 0, 2)
        for word in ("part", "meet"):
            self.no_turn(store, "same", word, 1, 1)
            self.no_house(store, word, None, 0)
            self.no_house(store, word, 0, None)
            self.no_house(store, word, None, 17)

    def test_send(self):
        store = led(X, sent=())
        self.deed(store, ((), 1), "send", 0, 2)
        self.tells(((1, 0, ((1, X),), 1), (1, 0, (), 0), (1, 0, ((1, X),), 1)), store, "paper")
        self.no_turn(store, "same", "send", 0, 0)
        self.no_turn(store, "leads", "send", 1, 0)
        self.no_house(store, "send", None, 0)
        self.no_house(store, "send", 0, None)
        store.part(0, 1)
        self.no_turn(store, "parted", "send", 0, 1)
        store.fall(1)
        self.no_turn(store, "other", "send", 0, 1)
        self.no_turn(store, "down", "send", 1, 0)

    def test_send_where_the_other_has_a_greater_term(self):
        store = behind(("stand", 0), ("part", 0, 1), ("part", 0, 2), ("stand", 1), ("meet", 0, 1))
        self.deed(store, None, "send", 0, 1)
        self.tells("2.0.0 2.0.0+ 2.0.0", store, "houses_text")

    def test_send_that_rolls_back(self):
        store = behind(("stand", 0), ("write", "ann", 0, X), ("fall", 0), ("stand", 1), ("write", "bo", 1, Y), ("rise", 0))
        self.deed(store, (((1, X),), 1), "send", 1, 0)

    def test_as_houses_tell(self):
        store, houses = Store(5), Houses(5)
        for word, *given in (("stand", 3), ("part", 3, 0), ("send", 3, 1), ("fall", 4), ("stand", 0), ("rise", 4),
                             ("stand", 1), ("meet", 0, 3), ("send", 1, 3)):
            self.deed(store, getattr(houses, word)(*given), word, *given)
            self.tells(str(houses), store, "houses_text")
            self.tells(houses.paper(), store, "paper")
            self.tells(houses.leaders(), store, "leaders")

    def test_each_house_of_a_strange_number(self):
        for many in (3, 4, 5):
            store = Store(many)
            for house in [strange for strange in STRANGE_HOUSES if strange not in range(many)] + [many]:
                for row in (("stand", house), ("fall", house), ("rise", house), ("send", house, 0), ("part", 0, house),
                            ("meet", house, house), ("send", 0, house), ("write", "ann", house, X),
                            ("turn", "ann", house, "x", (None, (("unset", (("each",),)),))), ("settle", "ann", house),
                            ("read", "ann", house, "x"), ("latest", "ann", house, "x"), ("branch", "far", house)):
                    self.no_deed(store, "NoHouse", (house,), *row)

    def test_what_was_told_stays(self):
        store = led(X)
        told = (store.paper(), store.log(), store.writes_of("ann"), store.history_of(0))
        ahead = shape_of(told)
        store.write("ann", 0, Y)
        store.send(0, 1)
        store.settle("ann", 0)
        store.undo()
        self.assertEqual(shape_of(told), ahead)
