import unittest

from support import FAR, PlayCase

from neverpenned.edges import ahead, begin, check_edge, edge_from, edge_image, end, heading, turned_about
from neverpenned.errors import BadEdge, BadName, BadNumber
from neverpenned.symmetries import Symmetry

HEADINGS = ((1, 0), (0, 1), (-1, 0), (0, -1))

# Edges around the corner (3, 5), one for each heading, that begin there.
FROM_CORNER = (((3, 5), (3, 4)), ((2, 5), (3, 5)), ((2, 4), (2, 5)), ((3, 4), (2, 4)))

RIGHT_EDGES = (((0, 0), (1, 0)), ((121, 121), (121, 120)), ((-121, -121), (-120, -121)), ((-121, 121), (-121, 120)),
               ((121, -120), (121, -121)), ((120, 0), (121, 0)), ((0, -121), (0, -120)))

WRONG_EDGES = (((0, 0), (0, 0)), ((0, 0), (1, 1)), ((0, 0), (2, 0)), ((0, 0), (0, -2)), ((0, 0), (-1, 1)),
               ((0, 0), (FAR, 0)), ((121, 0), (122, 0)), ((122, 0), (121, 0)), ((0, 121), (0, 122)),
               ((0, -122), (0, -121)), ((-122, 5), (-121, 5)), ((122, 7), (122, 8)), ((-122, 7), (-122, 8)),
               ((7, 122), (8, 122)), ((7, -122), (8, -122)), ((FAR, FAR), (FAR, FAR + 1)),
               ((-FAR, -FAR), (1 - FAR, -FAR)), ((121, 121), (-121, -121)))

CHECKED = (check_edge, heading, ahead, turned_about, begin, end)


class CheckEdgeTest(PlayCase):
    def test_right_edges(self):
        for edge in (*RIGHT_EDGES, *FROM_CORNER):
            self.assertIsNone(check_edge(edge))
            self.assertIsNone(check_edge((edge[1], edge[0])))

    def test_wrong_edges_are_refused_everywhere(self):
        for edge in WRONG_EDGES:
            for call in CHECKED:
                self.refused(BadEdge, {"edge": edge}, call, edge)
            self.refused(BadEdge, {"edge": edge}, edge_image, edge, Symmetry(0))


class HeadingTest(PlayCase):
    def test_headings(self):
        self.same(heading(((-1, 0), (0, 0))), (0, 1))
        for at in range(4):
            self.same(heading(FROM_CORNER[at]), HEADINGS[at])

    def test_cells_ahead(self):
        self.same(ahead(((-1, 0), (0, 0))), ((-1, 1), (0, 1)))
        self.same(ahead(((0, 0), (-1, 0))), ((0, -1), (-1, -1)))
        self.same(ahead(((0, 1), (0, 0))), ((1, 1), (1, 0)))
        self.same(ahead(((0, 0), (0, 1))), ((-1, 0), (-1, 1)))
        self.same(ahead(((120, 121), (121, 121))), ((120, 122), (121, 122)))

    def test_turned_about(self):
        self.same(turned_about(((-1, 0), (0, 0))), ((0, 0), (-1, 0)))
        for edge in RIGHT_EDGES:
            self.same(turned_about(turned_about(edge)), edge)
            east, north = heading(edge)
            self.same(heading(turned_about(edge)), (-east, -north))

    def test_corners(self):
        ends = ((4, 5), (3, 6), (2, 5), (3, 4))
        for at in range(4):
            self.same(begin(FROM_CORNER[at]), (3, 5))
            self.same(end(FROM_CORNER[at]), ends[at])
            self.same(begin(turned_about(FROM_CORNER[at])), ends[at])
            self.same(end(turned_about(FROM_CORNER[at])), (3, 5))

    def test_the_farthest_corners(self):
        self.same(begin(((121, 121), (121, 120))), (121, 121))
        self.same(end(((121, 121), (121, 120))), (122, 121))
        self.same(begin(((-121, -120), (-121, -121))), (-121, -120))
        self.same(begin(((-121, -121), (-120, -121))), (-120, -121))


class EdgeFromTest(PlayCase):
    def test_edges_from_a_corner(self):
        for at in range(4):
            self.same(edge_from((3, 5), HEADINGS[at]), FROM_CORNER[at])
        self.same(edge_from((0, 0), (0, 1)), ((-1, 0), (0, 0)))

    def test_begin_and_heading_tell_the_edge(self):
        for edge in RIGHT_EDGES:
            self.same(edge_from(begin(edge), heading(edge)), edge)
            other = turned_about(edge)
            self.same(edge_from(begin(other), heading(other)), other)

    def test_wrong_corners(self):
        for number in (-122, 123, FAR, -FAR):
            self.refused(BadNumber, {"number": number}, edge_from, (number, 0), (1, 0))
            self.refused(BadNumber, {"number": number}, edge_from, (0, number), (1, 0))
        self.refused(BadNumber, {"number": 123}, edge_from, (123, -122), (1, 0))

    def test_the_farthest_corners(self):
        self.same(edge_from((122, 121), (-1, 0)), ((121, 120), (121, 121)))
        self.same(edge_from((121, 122), (0, -1)), ((121, 121), (120, 121)))
        self.same(edge_from((-121, -120), (1, 0)), ((-121, -120), (-121, -121)))
        self.same(edge_from((-120, -121), (0, 1)), ((-121, -121), (-120, -121)))

    def test_edges_beyond(self):
        for corner, toward, edge in (((122, 0), (1, 0), ((122, 0), (122, -1))), ((122, 0), (0, 1), ((121, 0), (122, 0))),
                                     ((0, 122), (1, 0), ((0, 122), (0, 121))), ((-121, 0), (0, 1), ((-122, 0), (-121, 0))),
                                     ((-121, 0), (-1, 0), ((-122, -1), (-122, 0))),
                                     ((0, -121), (0, -1), ((0, -122), (-1, -122))),
                                     ((122, 122), (-1, 0), ((121, 121), (121, 122))),
                                     ((-121, -121), (1, 0), ((-121, -121), (-121, -122)))):
            self.refused(BadEdge, {"edge": edge}, edge_from, corner, toward)

    def test_wrong_headings(self):
        for toward in ((0, 0), (1, 1), (2, 0), (0, -2), (-1, 1), (FAR, 0)):
            self.refused(BadName, {"name": toward}, edge_from, (0, 0), toward)

    def test_the_order_of_the_checks(self):
        self.refused(BadNumber, {"number": 123}, edge_from, (0, 123), (5, 5))
        self.refused(BadName, {"name": (5, 5)}, edge_from, (122, 122), (5, 5))

    def test_arguments_may_be_named(self):
        self.same(edge_from(corner=(0, 0), heading=(0, 1)), ((-1, 0), (0, 0)))


class EdgeImageTest(PlayCase):
    def test_the_unit_leaves_an_edge(self):
        for edge in RIGHT_EDGES:
            self.same(edge_image(edge, Symmetry(0)), edge)

    def test_images(self):
        edge = ((-1, 0), (0, 0))
        self.same(edge_image(edge, Symmetry(1)), ((0, -1), (0, 0)))
        self.same(edge_image(edge, Symmetry(2)), ((1, 0), (0, 0)))
        self.same(edge_image(edge, Symmetry(3)), ((0, 1), (0, 0)))
        self.same(edge_image(edge, Symmetry(4)), ((0, 0), (1, 0)))
        self.same(edge_image(edge, Symmetry(5)), ((0, 0), (0, 1)))
        self.same(edge_image(edge, Symmetry(6)), ((0, 0), (-1, 0)))
        self.same(edge_image(edge, Symmetry(7)), ((0, 0), (0, -1)))

    def test_edges_beyond_the_reach_have_images(self):
        self.same(edge_image(((121, 121), (121, 120)), Symmetry(1)), ((-121, 121), (-120, 121)))
        self.same(edge_image(((-121, 7), (-120, 7)), Symmetry(4)), ((120, 7), (121, 7)))

    def test_each_symmetry_keeps_the_walk(self):
        for code in range(8):
            symmetry = Symmetry(code)
            for edge in (*FROM_CORNER, ((-7, 2), (-7, 3))):
                image = edge_image(edge, symmetry)
                self.assertIsNone(check_edge(image))
                # The heading is moved as a cell is, and so are the two cells of the side.
                self.same(heading(image), symmetry(heading(edge)))
                self.same(sorted(image), sorted([symmetry(edge[0]), symmetry(edge[1])]))


if __name__ == "__main__":
    unittest.main()
